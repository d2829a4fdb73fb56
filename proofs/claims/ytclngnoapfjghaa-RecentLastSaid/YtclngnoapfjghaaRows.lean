/-
  No cell of these rows narrows 'for every input' (looked for: loops, veiled, ifaces, maps, wideKeys, modest, calm, conditions, laid).
  DERIVED. THE GIVEN ROWS OF THIS SEAT. 6 by the template 'for every input the law returns true; each argument reads behind the call as it read before'; 0 by the template 'total and deterministic' (their statements: YtclngnoapfjghaaTotals.lean).
  GIVEN WITH THE SEED: the statements are not yours to turn. If you find one false, say at which input.
  Laid BY PROGRAM, IN A SANDBOX (cutbox-rows.mjs): the forced cells as the released guide's own fill.sh prints them over the translation 5f7ce96ce8a3149a… (all of the seat's roots in one cut). By AI agents, Wed Nov 11 2026. No macro, syntax, notation, axiom, sorry.
-/
import Derived.Test.YtclngnoapfjghaaChecked
import GoSem.Claim
import GoSem.ClaimJoined
import GoSem.ClaimMapViews
import Derived.JoinedTies
import Derived.KernelRfl
namespace Go.Proofs.Ytclngnoapfjghaa
/- THE CELL 'sum', in the pinned program and in every row, IS THE sha256 OF THE DUMP (.gsa) THAT YtclngnoapfjghaaProg.lean LOADS. Nothing in Lean hashes anything: it is a label: what it is worth is what the hold of that sum in a sandbox is worth. -/
noncomputable def Try.pinned : Pinned := { name := "ytclngnoapfjghaa", sum := "5f7ce96ce8a3149a1627ef98f38db02802e2e0e16b2634cc36d1cc3df112538b", checked := Try.checked }
namespace Rows
def none {H : Type} : Left H := { results := [], args := [] }

/-- 'quidnunclaw10.RecentPlays': WHATEVER THE INPUT: true; the input reads as it did. -/
def recentPlaysSpec : ChangeSpec := { name := "recentPlays", fn := fun _ => fun
  | [d] => { results := [.lit (.bool true)], args := [d] }
  | _ => none }
def recentPlaysRow : OpenClaim := { program := "ytclngnoapfjghaa", sum := "5f7ce96ce8a3149a1627ef98f38db02802e2e0e16b2634cc36d1cc3df112538b", func := "quidnunc/quidnunclaw10.RecentPlays", spec := "recentPlays", inPlace := ["internal/bytealg.abigen_runtime_cmpstring", "slices.overlaps[quidnunc/api.Mark]"], unfollowed := true, recurses := true, apart := false }
def RecentPlaysSaid : Prop := recentPlaysRow.holds Try.pinned (OpenSpec.ofChange recentPlaysSpec)

/-- ITS FALSE NEIGHBOUR: 'it returns false'. Refute it at one input. -/
def recentPlaysWrong : ChangeSpec := { name := "recentPlays", fn := fun _ => fun
  | [d] => { results := [.lit (.bool false)], args := [d] }
  | _ => none }
def RecentPlaysWrongFalsely : Prop := recentPlaysRow.holds Try.pinned (OpenSpec.ofChange recentPlaysWrong)

/-- 'quidnunclaw10.RecentOrders': WHATEVER THE INPUT: true; the input reads as it did. -/
def recentOrdersSpec : ChangeSpec := { name := "recentOrders", fn := fun _ => fun
  | [d1, d2, d3] => { results := [.lit (.bool true)], args := [d1, d2, d3] }
  | _ => none }
def recentOrdersRow : OpenClaim := { program := "ytclngnoapfjghaa", sum := "5f7ce96ce8a3149a1627ef98f38db02802e2e0e16b2634cc36d1cc3df112538b", func := "quidnunc/quidnunclaw10.RecentOrders", spec := "recentOrders", inPlace := ["internal/bytealg.abigen_runtime_cmpstring", "slices.overlaps[quidnunc/api.Mark]"], unfollowed := true, recurses := true, apart := false }
def RecentOrdersSaid : Prop := recentOrdersRow.holds Try.pinned (OpenSpec.ofChange recentOrdersSpec)

/-- ITS FALSE NEIGHBOUR: 'it returns false'. Refute it at one input. -/
def recentOrdersWrong : ChangeSpec := { name := "recentOrders", fn := fun _ => fun
  | [d1, d2, d3] => { results := [.lit (.bool false)], args := [d1, d2, d3] }
  | _ => none }
def RecentOrdersWrongFalsely : Prop := recentOrdersRow.holds Try.pinned (OpenSpec.ofChange recentOrdersWrong)

/-- 'quidnunclaw10.RecentGoes': WHATEVER THE INPUT: true; the input reads as it did. -/
def recentGoesSpec : ChangeSpec := { name := "recentGoes", fn := fun _ => fun
  | [d1, d2] => { results := [.lit (.bool true)], args := [d1, d2] }
  | _ => none }
def recentGoesRow : OpenClaim := { program := "ytclngnoapfjghaa", sum := "5f7ce96ce8a3149a1627ef98f38db02802e2e0e16b2634cc36d1cc3df112538b", func := "quidnunc/quidnunclaw10.RecentGoes", spec := "recentGoes", inPlace := ["internal/bytealg.abigen_runtime_cmpstring", "slices.overlaps[quidnunc/api.Mark]"], unfollowed := true, recurses := true, apart := false }
def RecentGoesSaid : Prop := recentGoesRow.holds Try.pinned (OpenSpec.ofChange recentGoesSpec)

/-- ITS FALSE NEIGHBOUR: 'it returns false'. Refute it at one input. -/
def recentGoesWrong : ChangeSpec := { name := "recentGoes", fn := fun _ => fun
  | [d1, d2] => { results := [.lit (.bool false)], args := [d1, d2] }
  | _ => none }
def RecentGoesWrongFalsely : Prop := recentGoesRow.holds Try.pinned (OpenSpec.ofChange recentGoesWrong)

/-- 'quidnunclaw10.RecentLast': WHATEVER THE INPUT: true; the input reads as it did. -/
def recentLastSpec : ChangeSpec := { name := "recentLast", fn := fun _ => fun
  | [d] => { results := [.lit (.bool true)], args := [d] }
  | _ => none }
def recentLastRow : OpenClaim := { program := "ytclngnoapfjghaa", sum := "5f7ce96ce8a3149a1627ef98f38db02802e2e0e16b2634cc36d1cc3df112538b", func := "quidnunc/quidnunclaw10.RecentLast", spec := "recentLast", inPlace := ["internal/bytealg.abigen_runtime_cmpstring", "slices.overlaps[quidnunc/api.Mark]"], unfollowed := true, recurses := true, apart := false }
def RecentLastSaid : Prop := recentLastRow.holds Try.pinned (OpenSpec.ofChange recentLastSpec)

/-- ITS FALSE NEIGHBOUR: 'it returns false'. Refute it at one input. -/
def recentLastWrong : ChangeSpec := { name := "recentLast", fn := fun _ => fun
  | [d] => { results := [.lit (.bool false)], args := [d] }
  | _ => none }
def RecentLastWrongFalsely : Prop := recentLastRow.holds Try.pinned (OpenSpec.ofChange recentLastWrong)

/-- 'quidnunclaw08.TableOrders': WHATEVER THE INPUT: true; the input reads as it did. -/
def tableOrdersSpec : ChangeSpec := { name := "tableOrders", fn := fun _ => fun
  | [d1, d2] => { results := [.lit (.bool true)], args := [d1, d2] }
  | _ => none }
def tableOrdersRow : OpenClaim := { program := "ytclngnoapfjghaa", sum := "5f7ce96ce8a3149a1627ef98f38db02802e2e0e16b2634cc36d1cc3df112538b", func := "quidnunc/quidnunclaw08.TableOrders", spec := "tableOrders", inPlace := ["internal/bytealg.abigen_runtime_cmpstring", "slices.overlaps[quidnunc/table.Pair[int]]", "slices.overlaps[quidnunc/table.Pair[string]]"], unfollowed := true, recurses := true, apart := false }
def TableOrdersSaid : Prop := tableOrdersRow.holds Try.pinned (OpenSpec.ofChange tableOrdersSpec)

/-- ITS FALSE NEIGHBOUR: 'it returns false'. Refute it at one input. -/
def tableOrdersWrong : ChangeSpec := { name := "tableOrders", fn := fun _ => fun
  | [d1, d2] => { results := [.lit (.bool false)], args := [d1, d2] }
  | _ => none }
def TableOrdersWrongFalsely : Prop := tableOrdersRow.holds Try.pinned (OpenSpec.ofChange tableOrdersWrong)

/-- 'quidnunclaw09.SumsHashes': WHATEVER THE INPUT: true; the input reads as it did. -/
def sumsHashesSpec : ChangeSpec := { name := "sumsHashes", fn := fun _ => fun
  | [d1, d2, d3] => { results := [.lit (.bool true)], args := [d1, d2, d3] }
  | _ => none }
def sumsHashesRow : OpenClaim := { program := "ytclngnoapfjghaa", sum := "5f7ce96ce8a3149a1627ef98f38db02802e2e0e16b2634cc36d1cc3df112538b", func := "quidnunc/quidnunclaw09.SumsHashes", spec := "sumsHashes", inPlace := ["sync/atomic.AddUint64", "sync/atomic.LoadUint64"], apart := false }
def SumsHashesSaid : Prop := sumsHashesRow.holds Try.pinned (OpenSpec.ofChange sumsHashesSpec)

/-- ITS FALSE NEIGHBOUR: 'it returns false'. Refute it at one input. -/
def sumsHashesWrong : ChangeSpec := { name := "sumsHashes", fn := fun _ => fun
  | [d1, d2, d3] => { results := [.lit (.bool false)], args := [d1, d2, d3] }
  | _ => none }
def SumsHashesWrongFalsely : Prop := sumsHashesRow.holds Try.pinned (OpenSpec.ofChange sumsHashesWrong)

/- THE SECOND FORM. 'bulk': how many values and letters a reading holds, each counted each time it is reached (what is shared counts as often as it is met; a slice's spare places count too). A statement '..UptoSaid' is the law's where the arguments, and the package variables that the reading takes, are together of bulk at most 1048576: NARROWER than '..Said'. Prove '..Said' where nothing that the law and all that it calls make is longer than what came in: it says more and counts as full. Else prove '..UptoSaid'. A law counts once. -/
mutual
def uptoBulk {H : Type} : DataW H → Nat
  | .lit (.string bytes) => bytes.length + 1
  | .lit _ => 1
  | .nil => 1
  | .ptr d => uptoBulk d + 1
  | .slice elems spare => uptoBulkAll elems + uptoBulkAll spare + 1
  | .agg parts => uptoBulkAll parts + 1
  | .iface _ d => uptoBulk d + 1
  | .map entries => uptoBulkEntries entries + 1
  | .held _ => 1
def uptoBulkAll {H : Type} : List (DataW H) → Nat
  | [] => 0
  | d :: r => uptoBulk d + uptoBulkAll r
def uptoBulkEntries {H : Type} : List (Lit × DataW H) → Nat
  | [] => 0
  | x :: r => uptoBulkEntry x + uptoBulkEntries r
def uptoBulkEntry {H : Type} : Lit × DataW H → Nat
  | (.string bytes, d) => bytes.length + uptoBulk d + 1
  | (_, d) => uptoBulk d + 1
 end
def uptoSmall : (H : Type) → List (DataW H) → Bool := fun _ ds => decide (uptoBulkAll ds ≤ 1048576)
def OpenSpec.upto (s : _root_.Go.ChangeSpec) : _root_.Go.OpenSpec := { _root_.Go.OpenSpec.ofChange s with cond := some uptoSmall }

/-- 'quidnunclaw10.RecentPlays', WHERE WHAT IT READS IS OF BULK AT MOST 1048576: true; the input reads as it did. -/
def recentPlaysUptoRow : OpenClaim := { program := "ytclngnoapfjghaa", sum := "5f7ce96ce8a3149a1627ef98f38db02802e2e0e16b2634cc36d1cc3df112538b", func := "quidnunc/quidnunclaw10.RecentPlays", spec := "recentPlays", inPlace := ["internal/bytealg.abigen_runtime_cmpstring", "slices.overlaps[quidnunc/api.Mark]"], unfollowed := true, recurses := true, apart := false, narrowed := true }
def RecentPlaysUptoSaid : Prop := recentPlaysUptoRow.holds Try.pinned (OpenSpec.upto recentPlaysSpec)

/-- 'quidnunclaw10.RecentOrders', WHERE WHAT IT READS IS OF BULK AT MOST 1048576: true; the input reads as it did. -/
def recentOrdersUptoRow : OpenClaim := { program := "ytclngnoapfjghaa", sum := "5f7ce96ce8a3149a1627ef98f38db02802e2e0e16b2634cc36d1cc3df112538b", func := "quidnunc/quidnunclaw10.RecentOrders", spec := "recentOrders", inPlace := ["internal/bytealg.abigen_runtime_cmpstring", "slices.overlaps[quidnunc/api.Mark]"], unfollowed := true, recurses := true, apart := false, narrowed := true }
def RecentOrdersUptoSaid : Prop := recentOrdersUptoRow.holds Try.pinned (OpenSpec.upto recentOrdersSpec)

/-- 'quidnunclaw10.RecentGoes', WHERE WHAT IT READS IS OF BULK AT MOST 1048576: true; the input reads as it did. -/
def recentGoesUptoRow : OpenClaim := { program := "ytclngnoapfjghaa", sum := "5f7ce96ce8a3149a1627ef98f38db02802e2e0e16b2634cc36d1cc3df112538b", func := "quidnunc/quidnunclaw10.RecentGoes", spec := "recentGoes", inPlace := ["internal/bytealg.abigen_runtime_cmpstring", "slices.overlaps[quidnunc/api.Mark]"], unfollowed := true, recurses := true, apart := false, narrowed := true }
def RecentGoesUptoSaid : Prop := recentGoesUptoRow.holds Try.pinned (OpenSpec.upto recentGoesSpec)

/-- 'quidnunclaw10.RecentLast', WHERE WHAT IT READS IS OF BULK AT MOST 1048576: true; the input reads as it did. -/
def recentLastUptoRow : OpenClaim := { program := "ytclngnoapfjghaa", sum := "5f7ce96ce8a3149a1627ef98f38db02802e2e0e16b2634cc36d1cc3df112538b", func := "quidnunc/quidnunclaw10.RecentLast", spec := "recentLast", inPlace := ["internal/bytealg.abigen_runtime_cmpstring", "slices.overlaps[quidnunc/api.Mark]"], unfollowed := true, recurses := true, apart := false, narrowed := true }
def RecentLastUptoSaid : Prop := recentLastUptoRow.holds Try.pinned (OpenSpec.upto recentLastSpec)

/-- 'quidnunclaw08.TableOrders', WHERE WHAT IT READS IS OF BULK AT MOST 1048576: true; the input reads as it did. -/
def tableOrdersUptoRow : OpenClaim := { program := "ytclngnoapfjghaa", sum := "5f7ce96ce8a3149a1627ef98f38db02802e2e0e16b2634cc36d1cc3df112538b", func := "quidnunc/quidnunclaw08.TableOrders", spec := "tableOrders", inPlace := ["internal/bytealg.abigen_runtime_cmpstring", "slices.overlaps[quidnunc/table.Pair[int]]", "slices.overlaps[quidnunc/table.Pair[string]]"], unfollowed := true, recurses := true, apart := false, narrowed := true }
def TableOrdersUptoSaid : Prop := tableOrdersUptoRow.holds Try.pinned (OpenSpec.upto tableOrdersSpec)

/-- 'quidnunclaw09.SumsHashes', WHERE WHAT IT READS IS OF BULK AT MOST 1048576: true; the input reads as it did. -/
def sumsHashesUptoRow : OpenClaim := { program := "ytclngnoapfjghaa", sum := "5f7ce96ce8a3149a1627ef98f38db02802e2e0e16b2634cc36d1cc3df112538b", func := "quidnunc/quidnunclaw09.SumsHashes", spec := "sumsHashes", inPlace := ["sync/atomic.AddUint64", "sync/atomic.LoadUint64"], apart := false, narrowed := true }
def SumsHashesUptoSaid : Prop := sumsHashesUptoRow.holds Try.pinned (OpenSpec.upto sumsHashesSpec)

end Rows
end Go.Proofs.Ytclngnoapfjghaa
