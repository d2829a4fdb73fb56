/-
  NARROWER THAN 'FOR EVERY INPUT', by the rows' own cells (each row's printed sentence says how): WireTells: laid · WireReads: laid · WireCuts: laid · OverlayPlays: laid · OverlayTells: laid · OverlayKeeps: laid · OverlaySilent: laid · OverlayJoins: laid · OverlayBeats: laid · OverlayRefuses: laid.
  DERIVED. THE GIVEN ROWS OF THIS SEAT. 10 by the template 'for every input the law returns true; each argument reads behind the call as it read before'; 0 by the template 'total and deterministic' (their statements: YtlieolehpmobfaaGreatDoorTotals.lean).
  GIVEN WITH THE SEED: the statements are not yours to turn. If you find one false, say at which input.
  Laid BY PROGRAM, IN A SANDBOX (cutbox-rows.mjs): the forced cells as the released guide's own fill.sh prints them over the translation 1aec420b30d7889c… (all of the seat's roots in one cut). By AI agents, Wed Nov 11 2026. No macro, syntax, notation, axiom, sorry.
-/
import Derived.Test.YtlieolehpmobfaaGreatDoorChecked
import GoSem.Claim
import GoSem.ClaimJoined
import GoSem.ClaimMapViews
import Derived.JoinedTies
import Derived.KernelRfl
namespace Go.Proofs.YtlieolehpmobfaaGreatDoor
/- THE CELL 'sum', in the pinned program and in every row, IS THE sha256 OF THE DUMP (.gsa) THAT YtlieolehpmobfaaGreatDoorProg.lean LOADS. Nothing in Lean hashes anything: it is a label: what it is worth is what the hold of that sum in a sandbox is worth. -/
noncomputable def Tryz.pinned : Pinned := { name := "ytlieolehpmobfaagreatdoor", sum := "1aec420b30d7889cb907d87afa5938bf0683aee37c6e683f071de2dad11bea2a", checked := Tryz.checked }
namespace Rows
def none {H : Type} : Left H := { results := [], args := [] }

/- WHAT THE LISTED PACKAGE-LEVEL VARIABLES READ AS WHEN THE CALL BEGINS. Each datum BY PROGRAM (the guide's laid-datum.mjs) off the statement by which the dump's own 'gosem.cut.vars' lays the variable. In a bare row this is a premise. The card (YtlieolehpmobfaaGreatDoorCards.lean) ties it to the program's text. -/
def laid_quidnunc_wire_kinds {H : Type} : DataW H := .agg [.agg [.lit (.string []), .lit (.int .i64 0), .lit (.int .i64 0), .lit (.int .i64 0)], .agg [.lit (.string [106, 111, 105, 110]), .lit (.int .i64 0), .lit (.int .i64 0), .lit (.int .i64 0)], .agg [.lit (.string [102, 111, 114, 119, 97, 114, 100]), .lit (.int .i64 3), .lit (.int .i64 0), .lit (.int .i64 0)], .agg [.lit (.string [110, 101, 105, 103, 104, 98, 111, 114]), .lit (.int .i64 4), .lit (.int .i64 0), .lit (.int .i64 0)], .agg [.lit (.string [97, 99, 99, 101, 112, 116]), .lit (.int .i64 0), .lit (.int .i64 0), .lit (.int .i64 0)], .agg [.lit (.string [114, 101, 102, 117, 115, 101]), .lit (.int .i64 0), .lit (.int .i64 0), .lit (.int .i64 0)], .agg [.lit (.string [112, 97, 114, 116]), .lit (.int .i64 0), .lit (.int .i64 0), .lit (.int .i64 0)], .agg [.lit (.string [115, 104, 117, 102, 102, 108, 101]), .lit (.int .i64 11), .lit (.int .i64 0), .lit (.int .i64 0)], .agg [.lit (.string [115, 119, 97, 112]), .lit (.int .i64 8), .lit (.int .i64 0), .lit (.int .i64 0)], .agg [.lit (.string [98, 101, 97, 116]), .lit (.int .i64 0), .lit (.int .i64 0), .lit (.int .i64 0)], .agg [.lit (.string [103, 111, 115, 115, 105, 112]), .lit (.int .i64 256), .lit (.int .i64 1), .lit (.int .i64 1)], .agg [.lit (.string [104, 97, 118, 101]), .lit (.int .i64 128), .lit (.int .i64 1), .lit (.int .i64 8)], .agg [.lit (.string [103, 114, 97, 102, 116]), .lit (.int .i64 128), .lit (.int .i64 1), .lit (.int .i64 1)], .agg [.lit (.string [112, 114, 117, 110, 101]), .lit (.int .i64 0), .lit (.int .i64 0), .lit (.int .i64 0)], .agg [.lit (.string [114, 117, 109, 111, 114, 115]), .lit (.int .i64 256), .lit (.int .i64 1), .lit (.int .i64 8)], .agg [.lit (.string [101, 99, 104, 111]), .lit (.int .i64 384), .lit (.int .i64 0), .lit (.int .i64 8)], .agg [.lit (.string [99, 104, 101, 99, 107]), .lit (.int .i64 304), .lit (.int .i64 0), .lit (.int .i64 8)], .agg [.lit (.string [109, 97, 116, 99, 104]), .lit (.int .i64 304), .lit (.int .i64 0), .lit (.int .i64 8)], .agg [.lit (.string [112, 101, 101, 108]), .lit (.int .i64 336), .lit (.int .i64 0), .lit (.int .i64 8)], .agg [.lit (.string [112, 105, 108, 101]), .lit (.int .i64 368), .lit (.int .i64 0), .lit (.int .i64 8)]]

/-- 'quidnunclaw16.WireTells': WHATEVER THE INPUT: true; the input reads as it did. -/
def wireTellsSpec : ChangeSpec := { name := "wireTells", fn := fun _ => fun
  | [d1, d2] => { results := [.lit (.bool true)], args := [d1, d2] }
  | _ => none }
def wireTellsRow : OpenClaim := { program := "ytlieolehpmobfaagreatdoor", sum := "1aec420b30d7889cb907d87afa5938bf0683aee37c6e683f071de2dad11bea2a", func := "quidnunc/quidnunclaw16.WireTells", spec := "wireTells", unfollowed := true, recurses := true, named := ["quidnunc/wire.kinds"], apart := false, laid := [("quidnunc/wire.kinds", laid_quidnunc_wire_kinds)] }
def WireTellsSaid : Prop := wireTellsRow.holds Tryz.pinned (OpenSpec.ofChange wireTellsSpec)

/-- ITS FALSE NEIGHBOUR: 'it returns false'. Refute it at one input. -/
def wireTellsWrong : ChangeSpec := { name := "wireTells", fn := fun _ => fun
  | [d1, d2] => { results := [.lit (.bool false)], args := [d1, d2] }
  | _ => none }
def WireTellsWrongFalsely : Prop := wireTellsRow.holds Tryz.pinned (OpenSpec.ofChange wireTellsWrong)

/-- 'quidnunclaw16.WireReads': WHATEVER THE INPUT: true; the input reads as it did. -/
def wireReadsSpec : ChangeSpec := { name := "wireReads", fn := fun _ => fun
  | [d1, d2] => { results := [.lit (.bool true)], args := [d1, d2] }
  | _ => none }
def wireReadsRow : OpenClaim := { program := "ytlieolehpmobfaagreatdoor", sum := "1aec420b30d7889cb907d87afa5938bf0683aee37c6e683f071de2dad11bea2a", func := "quidnunc/quidnunclaw16.WireReads", spec := "wireReads", unfollowed := true, recurses := true, named := ["quidnunc/wire.kinds"], apart := false, laid := [("quidnunc/wire.kinds", laid_quidnunc_wire_kinds)] }
def WireReadsSaid : Prop := wireReadsRow.holds Tryz.pinned (OpenSpec.ofChange wireReadsSpec)

/-- ITS FALSE NEIGHBOUR: 'it returns false'. Refute it at one input. -/
def wireReadsWrong : ChangeSpec := { name := "wireReads", fn := fun _ => fun
  | [d1, d2] => { results := [.lit (.bool false)], args := [d1, d2] }
  | _ => none }
def WireReadsWrongFalsely : Prop := wireReadsRow.holds Tryz.pinned (OpenSpec.ofChange wireReadsWrong)

/-- 'quidnunclaw16.WireCuts': WHATEVER THE INPUT: true; the input reads as it did. -/
def wireCutsSpec : ChangeSpec := { name := "wireCuts", fn := fun _ => fun
  | [d1, d2, d3] => { results := [.lit (.bool true)], args := [d1, d2, d3] }
  | _ => none }
def wireCutsRow : OpenClaim := { program := "ytlieolehpmobfaagreatdoor", sum := "1aec420b30d7889cb907d87afa5938bf0683aee37c6e683f071de2dad11bea2a", func := "quidnunc/quidnunclaw16.WireCuts", spec := "wireCuts", unfollowed := true, recurses := true, named := ["quidnunc/wire.kinds"], apart := false, laid := [("quidnunc/wire.kinds", laid_quidnunc_wire_kinds)] }
def WireCutsSaid : Prop := wireCutsRow.holds Tryz.pinned (OpenSpec.ofChange wireCutsSpec)

/-- ITS FALSE NEIGHBOUR: 'it returns false'. Refute it at one input. -/
def wireCutsWrong : ChangeSpec := { name := "wireCuts", fn := fun _ => fun
  | [d1, d2, d3] => { results := [.lit (.bool false)], args := [d1, d2, d3] }
  | _ => none }
def WireCutsWrongFalsely : Prop := wireCutsRow.holds Tryz.pinned (OpenSpec.ofChange wireCutsWrong)

/-- 'quidnunclaw17.OverlayPlays': WHATEVER THE INPUT: true; the input reads as it did. -/
def overlayPlaysSpec : ChangeSpec := { name := "overlayPlays", fn := fun _ => fun
  | [d1, d2, d3, d4] => { results := [.lit (.bool true)], args := [d1, d2, d3, d4] }
  | _ => none }
def overlayPlaysRow : OpenClaim := { program := "ytlieolehpmobfaagreatdoor", sum := "1aec420b30d7889cb907d87afa5938bf0683aee37c6e683f071de2dad11bea2a", func := "quidnunc/quidnunclaw17.OverlayPlays", spec := "overlayPlays", inPlace := ["slices.overlaps[int]"], unfollowed := true, recurses := true, named := ["quidnunc/wire.kinds"], apart := false, laid := [("quidnunc/wire.kinds", laid_quidnunc_wire_kinds)] }
def OverlayPlaysSaid : Prop := overlayPlaysRow.holds Tryz.pinned (OpenSpec.ofChange overlayPlaysSpec)

/-- ITS FALSE NEIGHBOUR: 'it returns false'. Refute it at one input. -/
def overlayPlaysWrong : ChangeSpec := { name := "overlayPlays", fn := fun _ => fun
  | [d1, d2, d3, d4] => { results := [.lit (.bool false)], args := [d1, d2, d3, d4] }
  | _ => none }
def OverlayPlaysWrongFalsely : Prop := overlayPlaysRow.holds Tryz.pinned (OpenSpec.ofChange overlayPlaysWrong)

/-- 'quidnunclaw17.OverlayTells': WHATEVER THE INPUT: true; the input reads as it did. -/
def overlayTellsSpec : ChangeSpec := { name := "overlayTells", fn := fun _ => fun
  | [d1, d2, d3, d4] => { results := [.lit (.bool true)], args := [d1, d2, d3, d4] }
  | _ => none }
def overlayTellsRow : OpenClaim := { program := "ytlieolehpmobfaagreatdoor", sum := "1aec420b30d7889cb907d87afa5938bf0683aee37c6e683f071de2dad11bea2a", func := "quidnunc/quidnunclaw17.OverlayTells", spec := "overlayTells", inPlace := ["slices.overlaps[int]"], unfollowed := true, recurses := true, named := ["quidnunc/wire.kinds"], apart := false, laid := [("quidnunc/wire.kinds", laid_quidnunc_wire_kinds)] }
def OverlayTellsSaid : Prop := overlayTellsRow.holds Tryz.pinned (OpenSpec.ofChange overlayTellsSpec)

/-- ITS FALSE NEIGHBOUR: 'it returns false'. Refute it at one input. -/
def overlayTellsWrong : ChangeSpec := { name := "overlayTells", fn := fun _ => fun
  | [d1, d2, d3, d4] => { results := [.lit (.bool false)], args := [d1, d2, d3, d4] }
  | _ => none }
def OverlayTellsWrongFalsely : Prop := overlayTellsRow.holds Tryz.pinned (OpenSpec.ofChange overlayTellsWrong)

/-- 'quidnunclaw17.OverlayKeeps': WHATEVER THE INPUT: true; the input reads as it did. -/
def overlayKeepsSpec : ChangeSpec := { name := "overlayKeeps", fn := fun _ => fun
  | [d1, d2, d3, d4] => { results := [.lit (.bool true)], args := [d1, d2, d3, d4] }
  | _ => none }
def overlayKeepsRow : OpenClaim := { program := "ytlieolehpmobfaagreatdoor", sum := "1aec420b30d7889cb907d87afa5938bf0683aee37c6e683f071de2dad11bea2a", func := "quidnunc/quidnunclaw17.OverlayKeeps", spec := "overlayKeeps", inPlace := ["slices.overlaps[int]"], unfollowed := true, recurses := true, named := ["quidnunc/wire.kinds"], apart := false, laid := [("quidnunc/wire.kinds", laid_quidnunc_wire_kinds)] }
def OverlayKeepsSaid : Prop := overlayKeepsRow.holds Tryz.pinned (OpenSpec.ofChange overlayKeepsSpec)

/-- ITS FALSE NEIGHBOUR: 'it returns false'. Refute it at one input. -/
def overlayKeepsWrong : ChangeSpec := { name := "overlayKeeps", fn := fun _ => fun
  | [d1, d2, d3, d4] => { results := [.lit (.bool false)], args := [d1, d2, d3, d4] }
  | _ => none }
def OverlayKeepsWrongFalsely : Prop := overlayKeepsRow.holds Tryz.pinned (OpenSpec.ofChange overlayKeepsWrong)

/-- 'quidnunclaw17.OverlaySilent': WHATEVER THE INPUT: true; the input reads as it did. -/
def overlaySilentSpec : ChangeSpec := { name := "overlaySilent", fn := fun _ => fun
  | [d1, d2] => { results := [.lit (.bool true)], args := [d1, d2] }
  | _ => none }
def overlaySilentRow : OpenClaim := { program := "ytlieolehpmobfaagreatdoor", sum := "1aec420b30d7889cb907d87afa5938bf0683aee37c6e683f071de2dad11bea2a", func := "quidnunc/quidnunclaw17.OverlaySilent", spec := "overlaySilent", inPlace := ["slices.overlaps[int]"], unfollowed := true, recurses := true, named := ["quidnunc/wire.kinds"], apart := false, laid := [("quidnunc/wire.kinds", laid_quidnunc_wire_kinds)] }
def OverlaySilentSaid : Prop := overlaySilentRow.holds Tryz.pinned (OpenSpec.ofChange overlaySilentSpec)

/-- ITS FALSE NEIGHBOUR: 'it returns false'. Refute it at one input. -/
def overlaySilentWrong : ChangeSpec := { name := "overlaySilent", fn := fun _ => fun
  | [d1, d2] => { results := [.lit (.bool false)], args := [d1, d2] }
  | _ => none }
def OverlaySilentWrongFalsely : Prop := overlaySilentRow.holds Tryz.pinned (OpenSpec.ofChange overlaySilentWrong)

/-- 'quidnunclaw17.OverlayJoins': WHATEVER THE INPUT: true; the input reads as it did. -/
def overlayJoinsSpec : ChangeSpec := { name := "overlayJoins", fn := fun _ => fun
  | [d1, d2, d3, d4] => { results := [.lit (.bool true)], args := [d1, d2, d3, d4] }
  | _ => none }
def overlayJoinsRow : OpenClaim := { program := "ytlieolehpmobfaagreatdoor", sum := "1aec420b30d7889cb907d87afa5938bf0683aee37c6e683f071de2dad11bea2a", func := "quidnunc/quidnunclaw17.OverlayJoins", spec := "overlayJoins", inPlace := ["slices.overlaps[int]"], unfollowed := true, recurses := true, named := ["quidnunc/wire.kinds"], apart := false, laid := [("quidnunc/wire.kinds", laid_quidnunc_wire_kinds)] }
def OverlayJoinsSaid : Prop := overlayJoinsRow.holds Tryz.pinned (OpenSpec.ofChange overlayJoinsSpec)

/-- ITS FALSE NEIGHBOUR: 'it returns false'. Refute it at one input. -/
def overlayJoinsWrong : ChangeSpec := { name := "overlayJoins", fn := fun _ => fun
  | [d1, d2, d3, d4] => { results := [.lit (.bool false)], args := [d1, d2, d3, d4] }
  | _ => none }
def OverlayJoinsWrongFalsely : Prop := overlayJoinsRow.holds Tryz.pinned (OpenSpec.ofChange overlayJoinsWrong)

/-- 'quidnunclaw17.OverlayBeats': WHATEVER THE INPUT: true; the input reads as it did. -/
def overlayBeatsSpec : ChangeSpec := { name := "overlayBeats", fn := fun _ => fun
  | [d1, d2, d3] => { results := [.lit (.bool true)], args := [d1, d2, d3] }
  | _ => none }
def overlayBeatsRow : OpenClaim := { program := "ytlieolehpmobfaagreatdoor", sum := "1aec420b30d7889cb907d87afa5938bf0683aee37c6e683f071de2dad11bea2a", func := "quidnunc/quidnunclaw17.OverlayBeats", spec := "overlayBeats", inPlace := ["slices.overlaps[int]"], unfollowed := true, recurses := true, named := ["quidnunc/wire.kinds"], apart := false, laid := [("quidnunc/wire.kinds", laid_quidnunc_wire_kinds)] }
def OverlayBeatsSaid : Prop := overlayBeatsRow.holds Tryz.pinned (OpenSpec.ofChange overlayBeatsSpec)

/-- ITS FALSE NEIGHBOUR: 'it returns false'. Refute it at one input. -/
def overlayBeatsWrong : ChangeSpec := { name := "overlayBeats", fn := fun _ => fun
  | [d1, d2, d3] => { results := [.lit (.bool false)], args := [d1, d2, d3] }
  | _ => none }
def OverlayBeatsWrongFalsely : Prop := overlayBeatsRow.holds Tryz.pinned (OpenSpec.ofChange overlayBeatsWrong)

/-- 'quidnunclaw17.OverlayRefuses': WHATEVER THE INPUT: true; the input reads as it did. -/
def overlayRefusesSpec : ChangeSpec := { name := "overlayRefuses", fn := fun _ => fun
  | [d1, d2, d3, d4] => { results := [.lit (.bool true)], args := [d1, d2, d3, d4] }
  | _ => none }
def overlayRefusesRow : OpenClaim := { program := "ytlieolehpmobfaagreatdoor", sum := "1aec420b30d7889cb907d87afa5938bf0683aee37c6e683f071de2dad11bea2a", func := "quidnunc/quidnunclaw17.OverlayRefuses", spec := "overlayRefuses", inPlace := ["slices.overlaps[int]"], unfollowed := true, recurses := true, named := ["quidnunc/wire.kinds"], apart := false, laid := [("quidnunc/wire.kinds", laid_quidnunc_wire_kinds)] }
def OverlayRefusesSaid : Prop := overlayRefusesRow.holds Tryz.pinned (OpenSpec.ofChange overlayRefusesSpec)

/-- ITS FALSE NEIGHBOUR: 'it returns false'. Refute it at one input. -/
def overlayRefusesWrong : ChangeSpec := { name := "overlayRefuses", fn := fun _ => fun
  | [d1, d2, d3, d4] => { results := [.lit (.bool false)], args := [d1, d2, d3, d4] }
  | _ => none }
def OverlayRefusesWrongFalsely : Prop := overlayRefusesRow.holds Tryz.pinned (OpenSpec.ofChange overlayRefusesWrong)

/- THE SECOND FORM. 'bulk': how many values and letters a reading holds, each counted each time it is reached (what is shared counts as often as it is met; a slice's spare places count too). A statement '..UptoSaid' is the law's where the arguments, and the package variables that the reading takes, are together of bulk at most 1048576: NARROWER than '..Said'. Prove '..Said' where nothing that the law and all that it calls make is longer than what came in: it says more and counts as full. Else prove '..UptoSaid'. A law counts once. -/
mutual
def uptoBulk {H : Type} : DataW H → Nat
  | .lit (.string bytes) => bytes.length + 1
  | .lit _ => 1
  | .nil => 1
  | .ptr d => uptoBulk d + 1
  | .slice elems spare => uptoBulkAll elems + uptoBulkAll spare + 1
  | .agg parts => uptoBulkAll parts + 1
  | .iface _ d => uptoBulk d + 1
  | .map entries => uptoBulkEntries entries + 1
  | .held _ => 1
def uptoBulkAll {H : Type} : List (DataW H) → Nat
  | [] => 0
  | d :: r => uptoBulk d + uptoBulkAll r
def uptoBulkEntries {H : Type} : List (Lit × DataW H) → Nat
  | [] => 0
  | x :: r => uptoBulkEntry x + uptoBulkEntries r
def uptoBulkEntry {H : Type} : Lit × DataW H → Nat
  | (.string bytes, d) => bytes.length + uptoBulk d + 1
  | (_, d) => uptoBulk d + 1
 end
def uptoSmall : (H : Type) → List (DataW H) → Bool := fun _ ds => decide (uptoBulkAll ds ≤ 1048576)
def OpenSpec.upto (s : _root_.Go.ChangeSpec) : _root_.Go.OpenSpec := { _root_.Go.OpenSpec.ofChange s with cond := some uptoSmall }

/-- 'quidnunclaw16.WireTells', WHERE WHAT IT READS IS OF BULK AT MOST 1048576: true; the input reads as it did. -/
def wireTellsUptoRow : OpenClaim := { program := "ytlieolehpmobfaagreatdoor", sum := "1aec420b30d7889cb907d87afa5938bf0683aee37c6e683f071de2dad11bea2a", func := "quidnunc/quidnunclaw16.WireTells", spec := "wireTells", unfollowed := true, recurses := true, named := ["quidnunc/wire.kinds"], apart := false, laid := [("quidnunc/wire.kinds", laid_quidnunc_wire_kinds)], narrowed := true }
def WireTellsUptoSaid : Prop := wireTellsUptoRow.holds Tryz.pinned (OpenSpec.upto wireTellsSpec)

/-- 'quidnunclaw16.WireReads', WHERE WHAT IT READS IS OF BULK AT MOST 1048576: true; the input reads as it did. -/
def wireReadsUptoRow : OpenClaim := { program := "ytlieolehpmobfaagreatdoor", sum := "1aec420b30d7889cb907d87afa5938bf0683aee37c6e683f071de2dad11bea2a", func := "quidnunc/quidnunclaw16.WireReads", spec := "wireReads", unfollowed := true, recurses := true, named := ["quidnunc/wire.kinds"], apart := false, laid := [("quidnunc/wire.kinds", laid_quidnunc_wire_kinds)], narrowed := true }
def WireReadsUptoSaid : Prop := wireReadsUptoRow.holds Tryz.pinned (OpenSpec.upto wireReadsSpec)

/-- 'quidnunclaw16.WireCuts', WHERE WHAT IT READS IS OF BULK AT MOST 1048576: true; the input reads as it did. -/
def wireCutsUptoRow : OpenClaim := { program := "ytlieolehpmobfaagreatdoor", sum := "1aec420b30d7889cb907d87afa5938bf0683aee37c6e683f071de2dad11bea2a", func := "quidnunc/quidnunclaw16.WireCuts", spec := "wireCuts", unfollowed := true, recurses := true, named := ["quidnunc/wire.kinds"], apart := false, laid := [("quidnunc/wire.kinds", laid_quidnunc_wire_kinds)], narrowed := true }
def WireCutsUptoSaid : Prop := wireCutsUptoRow.holds Tryz.pinned (OpenSpec.upto wireCutsSpec)

/-- 'quidnunclaw17.OverlayPlays', WHERE WHAT IT READS IS OF BULK AT MOST 1048576: true; the input reads as it did. -/
def overlayPlaysUptoRow : OpenClaim := { program := "ytlieolehpmobfaagreatdoor", sum := "1aec420b30d7889cb907d87afa5938bf0683aee37c6e683f071de2dad11bea2a", func := "quidnunc/quidnunclaw17.OverlayPlays", spec := "overlayPlays", inPlace := ["slices.overlaps[int]"], unfollowed := true, recurses := true, named := ["quidnunc/wire.kinds"], apart := false, laid := [("quidnunc/wire.kinds", laid_quidnunc_wire_kinds)], narrowed := true }
def OverlayPlaysUptoSaid : Prop := overlayPlaysUptoRow.holds Tryz.pinned (OpenSpec.upto overlayPlaysSpec)

/-- 'quidnunclaw17.OverlayTells', WHERE WHAT IT READS IS OF BULK AT MOST 1048576: true; the input reads as it did. -/
def overlayTellsUptoRow : OpenClaim := { program := "ytlieolehpmobfaagreatdoor", sum := "1aec420b30d7889cb907d87afa5938bf0683aee37c6e683f071de2dad11bea2a", func := "quidnunc/quidnunclaw17.OverlayTells", spec := "overlayTells", inPlace := ["slices.overlaps[int]"], unfollowed := true, recurses := true, named := ["quidnunc/wire.kinds"], apart := false, laid := [("quidnunc/wire.kinds", laid_quidnunc_wire_kinds)], narrowed := true }
def OverlayTellsUptoSaid : Prop := overlayTellsUptoRow.holds Tryz.pinned (OpenSpec.upto overlayTellsSpec)

/-- 'quidnunclaw17.OverlayKeeps', WHERE WHAT IT READS IS OF BULK AT MOST 1048576: true; the input reads as it did. -/
def overlayKeepsUptoRow : OpenClaim := { program := "ytlieolehpmobfaagreatdoor", sum := "1aec420b30d7889cb907d87afa5938bf0683aee37c6e683f071de2dad11bea2a", func := "quidnunc/quidnunclaw17.OverlayKeeps", spec := "overlayKeeps", inPlace := ["slices.overlaps[int]"], unfollowed := true, recurses := true, named := ["quidnunc/wire.kinds"], apart := false, laid := [("quidnunc/wire.kinds", laid_quidnunc_wire_kinds)], narrowed := true }
def OverlayKeepsUptoSaid : Prop := overlayKeepsUptoRow.holds Tryz.pinned (OpenSpec.upto overlayKeepsSpec)

/-- 'quidnunclaw17.OverlaySilent', WHERE WHAT IT READS IS OF BULK AT MOST 1048576: true; the input reads as it did. -/
def overlaySilentUptoRow : OpenClaim := { program := "ytlieolehpmobfaagreatdoor", sum := "1aec420b30d7889cb907d87afa5938bf0683aee37c6e683f071de2dad11bea2a", func := "quidnunc/quidnunclaw17.OverlaySilent", spec := "overlaySilent", inPlace := ["slices.overlaps[int]"], unfollowed := true, recurses := true, named := ["quidnunc/wire.kinds"], apart := false, laid := [("quidnunc/wire.kinds", laid_quidnunc_wire_kinds)], narrowed := true }
def OverlaySilentUptoSaid : Prop := overlaySilentUptoRow.holds Tryz.pinned (OpenSpec.upto overlaySilentSpec)

/-- 'quidnunclaw17.OverlayJoins', WHERE WHAT IT READS IS OF BULK AT MOST 1048576: true; the input reads as it did. -/
def overlayJoinsUptoRow : OpenClaim := { program := "ytlieolehpmobfaagreatdoor", sum := "1aec420b30d7889cb907d87afa5938bf0683aee37c6e683f071de2dad11bea2a", func := "quidnunc/quidnunclaw17.OverlayJoins", spec := "overlayJoins", inPlace := ["slices.overlaps[int]"], unfollowed := true, recurses := true, named := ["quidnunc/wire.kinds"], apart := false, laid := [("quidnunc/wire.kinds", laid_quidnunc_wire_kinds)], narrowed := true }
def OverlayJoinsUptoSaid : Prop := overlayJoinsUptoRow.holds Tryz.pinned (OpenSpec.upto overlayJoinsSpec)

/-- 'quidnunclaw17.OverlayBeats', WHERE WHAT IT READS IS OF BULK AT MOST 1048576: true; the input reads as it did. -/
def overlayBeatsUptoRow : OpenClaim := { program := "ytlieolehpmobfaagreatdoor", sum := "1aec420b30d7889cb907d87afa5938bf0683aee37c6e683f071de2dad11bea2a", func := "quidnunc/quidnunclaw17.OverlayBeats", spec := "overlayBeats", inPlace := ["slices.overlaps[int]"], unfollowed := true, recurses := true, named := ["quidnunc/wire.kinds"], apart := false, laid := [("quidnunc/wire.kinds", laid_quidnunc_wire_kinds)], narrowed := true }
def OverlayBeatsUptoSaid : Prop := overlayBeatsUptoRow.holds Tryz.pinned (OpenSpec.upto overlayBeatsSpec)

/-- 'quidnunclaw17.OverlayRefuses', WHERE WHAT IT READS IS OF BULK AT MOST 1048576: true; the input reads as it did. -/
def overlayRefusesUptoRow : OpenClaim := { program := "ytlieolehpmobfaagreatdoor", sum := "1aec420b30d7889cb907d87afa5938bf0683aee37c6e683f071de2dad11bea2a", func := "quidnunc/quidnunclaw17.OverlayRefuses", spec := "overlayRefuses", inPlace := ["slices.overlaps[int]"], unfollowed := true, recurses := true, named := ["quidnunc/wire.kinds"], apart := false, laid := [("quidnunc/wire.kinds", laid_quidnunc_wire_kinds)], narrowed := true }
def OverlayRefusesUptoSaid : Prop := overlayRefusesUptoRow.holds Tryz.pinned (OpenSpec.upto overlayRefusesSpec)

end Rows
end Go.Proofs.YtlieolehpmobfaaGreatDoor
