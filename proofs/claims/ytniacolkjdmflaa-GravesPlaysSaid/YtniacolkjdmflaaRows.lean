/-
  No cell of these rows narrows 'for every input' (looked for: loops, veiled, ifaces, maps, wideKeys, modest, calm, conditions, laid).
  DERIVED. THE GIVEN ROWS OF THIS SEAT. 6 by the template 'for every input the law returns true; each argument reads behind the call as it read before'; 0 by the template 'total and deterministic' (their statements: YtniacolkjdmflaaTotals.lean).
  GIVEN WITH THE SEED: the statements are not yours to turn. If you find one false, say at which input.
  Laid BY PROGRAM, IN A SANDBOX (cutbox-rows.mjs): the forced cells as the released guide's own fill.sh prints them over the translation b089d4b297e9f92a… (all of the seat's roots in one cut). By AI agents, Wed Nov 11 2026. No macro, syntax, notation, axiom, sorry.
-/
import Derived.Test.YtniacolkjdmflaaChecked
import GoSem.Claim
import GoSem.ClaimJoined
import GoSem.ClaimMapViews
import Derived.JoinedTies
import Derived.KernelRfl
namespace Go.Proofs.Ytniacolkjdmflaa
/- THE CELL 'sum', in the pinned program and in every row, IS THE sha256 OF THE DUMP (.gsa) THAT YtniacolkjdmflaaProg.lean LOADS. Nothing in Lean hashes anything: it is a label: what it is worth is what the hold of that sum in a sandbox is worth. -/
noncomputable def Try.pinned : Pinned := { name := "ytniacolkjdmflaa", sum := "b089d4b297e9f92ace7adde5129eb6890f0e02ba9c0243cd0c51fbd75745b293", checked := Try.checked }
namespace Rows
def none {H : Type} : Left H := { results := [], args := [] }

/-- 'quidnunclaw11.GravesPlays': WHATEVER THE INPUT: true; the input reads as it did. -/
def gravesPlaysSpec : ChangeSpec := { name := "gravesPlays", fn := fun _ => fun
  | [d1, d2, d3, d4] => { results := [.lit (.bool true)], args := [d1, d2, d3, d4] }
  | _ => none }
def gravesPlaysRow : OpenClaim := { program := "ytniacolkjdmflaa", sum := "b089d4b297e9f92ace7adde5129eb6890f0e02ba9c0243cd0c51fbd75745b293", func := "quidnunc/quidnunclaw11.GravesPlays", spec := "gravesPlays", inPlace := ["internal/bytealg.abigen_runtime_cmpstring", "slices.overlaps[quidnunc/table.Pair[quidnunc/api.Entry]]"], unfollowed := true, recurses := true, apart := false }
def GravesPlaysSaid : Prop := gravesPlaysRow.holds Try.pinned (OpenSpec.ofChange gravesPlaysSpec)

/-- ITS FALSE NEIGHBOUR: 'it returns false'. Refute it at one input. -/
def gravesPlaysWrong : ChangeSpec := { name := "gravesPlays", fn := fun _ => fun
  | [d1, d2, d3, d4] => { results := [.lit (.bool false)], args := [d1, d2, d3, d4] }
  | _ => none }
def GravesPlaysWrongFalsely : Prop := gravesPlaysRow.holds Try.pinned (OpenSpec.ofChange gravesPlaysWrong)

/-- 'quidnunclaw11.GravesRise': WHATEVER THE INPUT: true; the input reads as it did. -/
def gravesRiseSpec : ChangeSpec := { name := "gravesRise", fn := fun _ => fun
  | [d1, d2, d3, d4] => { results := [.lit (.bool true)], args := [d1, d2, d3, d4] }
  | _ => none }
def gravesRiseRow : OpenClaim := { program := "ytniacolkjdmflaa", sum := "b089d4b297e9f92ace7adde5129eb6890f0e02ba9c0243cd0c51fbd75745b293", func := "quidnunc/quidnunclaw11.GravesRise", spec := "gravesRise", inPlace := ["internal/bytealg.abigen_runtime_cmpstring", "slices.overlaps[quidnunc/table.Pair[quidnunc/api.Entry]]"], unfollowed := true, recurses := true, apart := false }
def GravesRiseSaid : Prop := gravesRiseRow.holds Try.pinned (OpenSpec.ofChange gravesRiseSpec)

/-- ITS FALSE NEIGHBOUR: 'it returns false'. Refute it at one input. -/
def gravesRiseWrong : ChangeSpec := { name := "gravesRise", fn := fun _ => fun
  | [d1, d2, d3, d4] => { results := [.lit (.bool false)], args := [d1, d2, d3, d4] }
  | _ => none }
def GravesRiseWrongFalsely : Prop := gravesRiseRow.holds Try.pinned (OpenSpec.ofChange gravesRiseWrong)

/-- 'quidnunclaw11.GravesOff': WHATEVER THE INPUT: true; the input reads as it did. -/
def gravesOffSpec : ChangeSpec := { name := "gravesOff", fn := fun _ => fun
  | [d1, d2] => { results := [.lit (.bool true)], args := [d1, d2] }
  | _ => none }
def gravesOffRow : OpenClaim := { program := "ytniacolkjdmflaa", sum := "b089d4b297e9f92ace7adde5129eb6890f0e02ba9c0243cd0c51fbd75745b293", func := "quidnunc/quidnunclaw11.GravesOff", spec := "gravesOff", inPlace := ["internal/bytealg.abigen_runtime_cmpstring", "slices.overlaps[quidnunc/table.Pair[quidnunc/api.Entry]]"], unfollowed := true, recurses := true, apart := false }
def GravesOffSaid : Prop := gravesOffRow.holds Try.pinned (OpenSpec.ofChange gravesOffSpec)

/-- ITS FALSE NEIGHBOUR: 'it returns false'. Refute it at one input. -/
def gravesOffWrong : ChangeSpec := { name := "gravesOff", fn := fun _ => fun
  | [d1, d2] => { results := [.lit (.bool false)], args := [d1, d2] }
  | _ => none }
def GravesOffWrongFalsely : Prop := gravesOffRow.holds Try.pinned (OpenSpec.ofChange gravesOffWrong)

/-- 'quidnunclaw11.GravesAny': WHATEVER THE INPUT: true; the input reads as it did. -/
def gravesAnySpec : ChangeSpec := { name := "gravesAny", fn := fun _ => fun
  | [d1, d2] => { results := [.lit (.bool true)], args := [d1, d2] }
  | _ => none }
def gravesAnyRow : OpenClaim := { program := "ytniacolkjdmflaa", sum := "b089d4b297e9f92ace7adde5129eb6890f0e02ba9c0243cd0c51fbd75745b293", func := "quidnunc/quidnunclaw11.GravesAny", spec := "gravesAny", inPlace := ["internal/bytealg.abigen_runtime_cmpstring", "slices.overlaps[quidnunc/table.Pair[quidnunc/api.Entry]]"], unfollowed := true, recurses := true, apart := false }
def GravesAnySaid : Prop := gravesAnyRow.holds Try.pinned (OpenSpec.ofChange gravesAnySpec)

/-- ITS FALSE NEIGHBOUR: 'it returns false'. Refute it at one input. -/
def gravesAnyWrong : ChangeSpec := { name := "gravesAny", fn := fun _ => fun
  | [d1, d2] => { results := [.lit (.bool false)], args := [d1, d2] }
  | _ => none }
def GravesAnyWrongFalsely : Prop := gravesAnyRow.holds Try.pinned (OpenSpec.ofChange gravesAnyWrong)

/-- 'quidnunclaw08.TableOrders': WHATEVER THE INPUT: true; the input reads as it did. -/
def tableOrdersSpec : ChangeSpec := { name := "tableOrders", fn := fun _ => fun
  | [d1, d2] => { results := [.lit (.bool true)], args := [d1, d2] }
  | _ => none }
def tableOrdersRow : OpenClaim := { program := "ytniacolkjdmflaa", sum := "b089d4b297e9f92ace7adde5129eb6890f0e02ba9c0243cd0c51fbd75745b293", func := "quidnunc/quidnunclaw08.TableOrders", spec := "tableOrders", inPlace := ["internal/bytealg.abigen_runtime_cmpstring", "slices.overlaps[quidnunc/table.Pair[int]]", "slices.overlaps[quidnunc/table.Pair[string]]"], unfollowed := true, recurses := true, apart := false }
def TableOrdersSaid : Prop := tableOrdersRow.holds Try.pinned (OpenSpec.ofChange tableOrdersSpec)

/-- ITS FALSE NEIGHBOUR: 'it returns false'. Refute it at one input. -/
def tableOrdersWrong : ChangeSpec := { name := "tableOrders", fn := fun _ => fun
  | [d1, d2] => { results := [.lit (.bool false)], args := [d1, d2] }
  | _ => none }
def TableOrdersWrongFalsely : Prop := tableOrdersRow.holds Try.pinned (OpenSpec.ofChange tableOrdersWrong)

/-- 'quidnunclaw09.SumsHashes': WHATEVER THE INPUT: true; the input reads as it did. -/
def sumsHashesSpec : ChangeSpec := { name := "sumsHashes", fn := fun _ => fun
  | [d1, d2, d3] => { results := [.lit (.bool true)], args := [d1, d2, d3] }
  | _ => none }
def sumsHashesRow : OpenClaim := { program := "ytniacolkjdmflaa", sum := "b089d4b297e9f92ace7adde5129eb6890f0e02ba9c0243cd0c51fbd75745b293", func := "quidnunc/quidnunclaw09.SumsHashes", spec := "sumsHashes", inPlace := ["sync/atomic.AddUint64", "sync/atomic.LoadUint64"], apart := false }
def SumsHashesSaid : Prop := sumsHashesRow.holds Try.pinned (OpenSpec.ofChange sumsHashesSpec)

/-- ITS FALSE NEIGHBOUR: 'it returns false'. Refute it at one input. -/
def sumsHashesWrong : ChangeSpec := { name := "sumsHashes", fn := fun _ => fun
  | [d1, d2, d3] => { results := [.lit (.bool false)], args := [d1, d2, d3] }
  | _ => none }
def SumsHashesWrongFalsely : Prop := sumsHashesRow.holds Try.pinned (OpenSpec.ofChange sumsHashesWrong)

/- THE SECOND FORM. 'bulk': how many values and letters a reading holds, each counted each time it is reached (what is shared counts as often as it is met; a slice's spare places count too). A statement '..UptoSaid' is the law's where the arguments, and the package variables that the reading takes, are together of bulk at most 1048576: NARROWER than '..Said'. Prove '..Said' where nothing that the law and all that it calls make is longer than what came in: it says more and counts as full. Else prove '..UptoSaid'. A law counts once. -/
mutual
def uptoBulk {H : Type} : DataW H → Nat
  | .lit (.string bytes) => bytes.length + 1
  | .lit _ => 1
  | .nil => 1
  | .ptr d => uptoBulk d + 1
  | .slice elems spare => uptoBulkAll elems + uptoBulkAll spare + 1
  | .agg parts => uptoBulkAll parts + 1
  | .iface _ d => uptoBulk d + 1
  | .map entries => uptoBulkEntries entries + 1
  | .held _ => 1
def uptoBulkAll {H : Type} : List (DataW H) → Nat
  | [] => 0
  | d :: r => uptoBulk d + uptoBulkAll r
def uptoBulkEntries {H : Type} : List (Lit × DataW H) → Nat
  | [] => 0
  | x :: r => uptoBulkEntry x + uptoBulkEntries r
def uptoBulkEntry {H : Type} : Lit × DataW H → Nat
  | (.string bytes, d) => bytes.length + uptoBulk d + 1
  | (_, d) => uptoBulk d + 1
 end
def uptoSmall : (H : Type) → List (DataW H) → Bool := fun _ ds => decide (uptoBulkAll ds ≤ 1048576)
def OpenSpec.upto (s : _root_.Go.ChangeSpec) : _root_.Go.OpenSpec := { _root_.Go.OpenSpec.ofChange s with cond := some uptoSmall }

/-- 'quidnunclaw11.GravesPlays', WHERE WHAT IT READS IS OF BULK AT MOST 1048576: true; the input reads as it did. -/
def gravesPlaysUptoRow : OpenClaim := { program := "ytniacolkjdmflaa", sum := "b089d4b297e9f92ace7adde5129eb6890f0e02ba9c0243cd0c51fbd75745b293", func := "quidnunc/quidnunclaw11.GravesPlays", spec := "gravesPlays", inPlace := ["internal/bytealg.abigen_runtime_cmpstring", "slices.overlaps[quidnunc/table.Pair[quidnunc/api.Entry]]"], unfollowed := true, recurses := true, apart := false, narrowed := true }
def GravesPlaysUptoSaid : Prop := gravesPlaysUptoRow.holds Try.pinned (OpenSpec.upto gravesPlaysSpec)

/-- 'quidnunclaw11.GravesRise', WHERE WHAT IT READS IS OF BULK AT MOST 1048576: true; the input reads as it did. -/
def gravesRiseUptoRow : OpenClaim := { program := "ytniacolkjdmflaa", sum := "b089d4b297e9f92ace7adde5129eb6890f0e02ba9c0243cd0c51fbd75745b293", func := "quidnunc/quidnunclaw11.GravesRise", spec := "gravesRise", inPlace := ["internal/bytealg.abigen_runtime_cmpstring", "slices.overlaps[quidnunc/table.Pair[quidnunc/api.Entry]]"], unfollowed := true, recurses := true, apart := false, narrowed := true }
def GravesRiseUptoSaid : Prop := gravesRiseUptoRow.holds Try.pinned (OpenSpec.upto gravesRiseSpec)

/-- 'quidnunclaw11.GravesOff', WHERE WHAT IT READS IS OF BULK AT MOST 1048576: true; the input reads as it did. -/
def gravesOffUptoRow : OpenClaim := { program := "ytniacolkjdmflaa", sum := "b089d4b297e9f92ace7adde5129eb6890f0e02ba9c0243cd0c51fbd75745b293", func := "quidnunc/quidnunclaw11.GravesOff", spec := "gravesOff", inPlace := ["internal/bytealg.abigen_runtime_cmpstring", "slices.overlaps[quidnunc/table.Pair[quidnunc/api.Entry]]"], unfollowed := true, recurses := true, apart := false, narrowed := true }
def GravesOffUptoSaid : Prop := gravesOffUptoRow.holds Try.pinned (OpenSpec.upto gravesOffSpec)

/-- 'quidnunclaw11.GravesAny', WHERE WHAT IT READS IS OF BULK AT MOST 1048576: true; the input reads as it did. -/
def gravesAnyUptoRow : OpenClaim := { program := "ytniacolkjdmflaa", sum := "b089d4b297e9f92ace7adde5129eb6890f0e02ba9c0243cd0c51fbd75745b293", func := "quidnunc/quidnunclaw11.GravesAny", spec := "gravesAny", inPlace := ["internal/bytealg.abigen_runtime_cmpstring", "slices.overlaps[quidnunc/table.Pair[quidnunc/api.Entry]]"], unfollowed := true, recurses := true, apart := false, narrowed := true }
def GravesAnyUptoSaid : Prop := gravesAnyUptoRow.holds Try.pinned (OpenSpec.upto gravesAnySpec)

/-- 'quidnunclaw08.TableOrders', WHERE WHAT IT READS IS OF BULK AT MOST 1048576: true; the input reads as it did. -/
def tableOrdersUptoRow : OpenClaim := { program := "ytniacolkjdmflaa", sum := "b089d4b297e9f92ace7adde5129eb6890f0e02ba9c0243cd0c51fbd75745b293", func := "quidnunc/quidnunclaw08.TableOrders", spec := "tableOrders", inPlace := ["internal/bytealg.abigen_runtime_cmpstring", "slices.overlaps[quidnunc/table.Pair[int]]", "slices.overlaps[quidnunc/table.Pair[string]]"], unfollowed := true, recurses := true, apart := false, narrowed := true }
def TableOrdersUptoSaid : Prop := tableOrdersUptoRow.holds Try.pinned (OpenSpec.upto tableOrdersSpec)

/-- 'quidnunclaw09.SumsHashes', WHERE WHAT IT READS IS OF BULK AT MOST 1048576: true; the input reads as it did. -/
def sumsHashesUptoRow : OpenClaim := { program := "ytniacolkjdmflaa", sum := "b089d4b297e9f92ace7adde5129eb6890f0e02ba9c0243cd0c51fbd75745b293", func := "quidnunc/quidnunclaw09.SumsHashes", spec := "sumsHashes", inPlace := ["sync/atomic.AddUint64", "sync/atomic.LoadUint64"], apart := false, narrowed := true }
def SumsHashesUptoSaid : Prop := sumsHashesUptoRow.holds Try.pinned (OpenSpec.upto sumsHashesSpec)

end Rows
end Go.Proofs.Ytniacolkjdmflaa
