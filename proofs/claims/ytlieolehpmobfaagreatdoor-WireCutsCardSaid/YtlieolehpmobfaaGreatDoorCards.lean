/-
  DERIVED. GIVEN WITH THE SEED: THE CARDS: each row of YtlieolehpmobfaaGreatDoorRows.lean that lists a variable, with what it lists TIED to the program's text (the seventh form; the later family's looks); each row that meets fmt, with fmt's text TOLD by the authors' own Lean function (tested against real Go, not proved from fmt's source: count such statements apart). THE CARD IS WHAT COUNTS. Prove the row's statement (the work); the ties are given (YtlieolehpmobfaaGreatDoorTie.lean); close each card by the builder's one call (the guide's Derived/Test/ToyasCard.lean, 'card_holds'). Laid BY PROGRAM, IN A SANDBOX (cutbox-door.mjs). By AI agents, Wed Nov 11 2026. No macro, syntax, notation, axiom, sorry.
-/
import Derived.Test.YtlieolehpmobfaaGreatDoorRows
import GoSem.ClaimSeven
namespace Go.Proofs.YtlieolehpmobfaaGreatDoor
namespace Rows

/-- THE TIED CARD OF 'quidnunclaw16.WireTells'. -/
def wireTellsCard : Claim7 := { stood := { row := wireTellsRow, standIns := [], harness := (true, "c64909ddbc32c108cd8b028edc97cdea6756d5858655a3fdb24564190697f6a9"), looks := false }, kinds := [], alts := [], laidByText := true, laidKinds := [.wider], laidTests := true, laidLooks := .later }
def WireTellsCardSaid : Prop := Claim7.holds Tryz.pinned (.plain (OpenSpec.ofChange wireTellsSpec)) wireTellsCard

/-- THE TIED CARD OF 'quidnunclaw16.WireReads'. -/
def wireReadsCard : Claim7 := { stood := { row := wireReadsRow, standIns := [], harness := (true, "c64909ddbc32c108cd8b028edc97cdea6756d5858655a3fdb24564190697f6a9"), looks := false }, kinds := [], alts := [], laidByText := true, laidKinds := [.wider], laidTests := true, laidLooks := .later }
def WireReadsCardSaid : Prop := Claim7.holds Tryz.pinned (.plain (OpenSpec.ofChange wireReadsSpec)) wireReadsCard

/-- THE TIED CARD OF 'quidnunclaw16.WireCuts'. -/
def wireCutsCard : Claim7 := { stood := { row := wireCutsRow, standIns := [], harness := (true, "c64909ddbc32c108cd8b028edc97cdea6756d5858655a3fdb24564190697f6a9"), looks := false }, kinds := [], alts := [], laidByText := true, laidKinds := [.wider], laidTests := true, laidLooks := .later }
def WireCutsCardSaid : Prop := Claim7.holds Tryz.pinned (.plain (OpenSpec.ofChange wireCutsSpec)) wireCutsCard

/-- THE TIED CARD OF 'quidnunclaw17.OverlayPlays'. -/
def overlayPlaysCard : Claim7 := { stood := { row := overlayPlaysRow, standIns := [], harness := (true, "c64909ddbc32c108cd8b028edc97cdea6756d5858655a3fdb24564190697f6a9"), looks := false }, kinds := [], alts := [], laidByText := true, laidKinds := [.wider], laidTests := true, laidLooks := .later }
def OverlayPlaysCardSaid : Prop := Claim7.holds Tryz.pinned (.plain (OpenSpec.ofChange overlayPlaysSpec)) overlayPlaysCard

/-- THE TIED CARD OF 'quidnunclaw17.OverlayTells'. -/
def overlayTellsCard : Claim7 := { stood := { row := overlayTellsRow, standIns := [], harness := (true, "c64909ddbc32c108cd8b028edc97cdea6756d5858655a3fdb24564190697f6a9"), looks := false }, kinds := [], alts := [], laidByText := true, laidKinds := [.wider], laidTests := true, laidLooks := .later }
def OverlayTellsCardSaid : Prop := Claim7.holds Tryz.pinned (.plain (OpenSpec.ofChange overlayTellsSpec)) overlayTellsCard

/-- THE TIED CARD OF 'quidnunclaw17.OverlayKeeps'. -/
def overlayKeepsCard : Claim7 := { stood := { row := overlayKeepsRow, standIns := [], harness := (true, "c64909ddbc32c108cd8b028edc97cdea6756d5858655a3fdb24564190697f6a9"), looks := false }, kinds := [], alts := [], laidByText := true, laidKinds := [.wider], laidTests := true, laidLooks := .later }
def OverlayKeepsCardSaid : Prop := Claim7.holds Tryz.pinned (.plain (OpenSpec.ofChange overlayKeepsSpec)) overlayKeepsCard

/-- THE TIED CARD OF 'quidnunclaw17.OverlaySilent'. -/
def overlaySilentCard : Claim7 := { stood := { row := overlaySilentRow, standIns := [], harness := (true, "c64909ddbc32c108cd8b028edc97cdea6756d5858655a3fdb24564190697f6a9"), looks := false }, kinds := [], alts := [], laidByText := true, laidKinds := [.wider], laidTests := true, laidLooks := .later }
def OverlaySilentCardSaid : Prop := Claim7.holds Tryz.pinned (.plain (OpenSpec.ofChange overlaySilentSpec)) overlaySilentCard

/-- THE TIED CARD OF 'quidnunclaw17.OverlayJoins'. -/
def overlayJoinsCard : Claim7 := { stood := { row := overlayJoinsRow, standIns := [], harness := (true, "c64909ddbc32c108cd8b028edc97cdea6756d5858655a3fdb24564190697f6a9"), looks := false }, kinds := [], alts := [], laidByText := true, laidKinds := [.wider], laidTests := true, laidLooks := .later }
def OverlayJoinsCardSaid : Prop := Claim7.holds Tryz.pinned (.plain (OpenSpec.ofChange overlayJoinsSpec)) overlayJoinsCard

/-- THE TIED CARD OF 'quidnunclaw17.OverlayBeats'. -/
def overlayBeatsCard : Claim7 := { stood := { row := overlayBeatsRow, standIns := [], harness := (true, "c64909ddbc32c108cd8b028edc97cdea6756d5858655a3fdb24564190697f6a9"), looks := false }, kinds := [], alts := [], laidByText := true, laidKinds := [.wider], laidTests := true, laidLooks := .later }
def OverlayBeatsCardSaid : Prop := Claim7.holds Tryz.pinned (.plain (OpenSpec.ofChange overlayBeatsSpec)) overlayBeatsCard

/-- THE TIED CARD OF 'quidnunclaw17.OverlayRefuses'. -/
def overlayRefusesCard : Claim7 := { stood := { row := overlayRefusesRow, standIns := [], harness := (true, "c64909ddbc32c108cd8b028edc97cdea6756d5858655a3fdb24564190697f6a9"), looks := false }, kinds := [], alts := [], laidByText := true, laidKinds := [.wider], laidTests := true, laidLooks := .later }
def OverlayRefusesCardSaid : Prop := Claim7.holds Tryz.pinned (.plain (OpenSpec.ofChange overlayRefusesSpec)) overlayRefusesCard

/-- THE SECOND FORM's CARD OF 'quidnunclaw16.WireTells'. -/
def wireTellsUptoCard : Claim7 := { stood := { row := wireTellsUptoRow, standIns := [], harness := (true, "c64909ddbc32c108cd8b028edc97cdea6756d5858655a3fdb24564190697f6a9"), looks := false }, kinds := [], alts := [], laidByText := true, laidKinds := [.wider], laidTests := true, laidLooks := .later }
def WireTellsUptoCardSaid : Prop := Claim7.holds Tryz.pinned (.plain (OpenSpec.upto wireTellsSpec)) wireTellsUptoCard

/-- THE SECOND FORM's CARD OF 'quidnunclaw16.WireReads'. -/
def wireReadsUptoCard : Claim7 := { stood := { row := wireReadsUptoRow, standIns := [], harness := (true, "c64909ddbc32c108cd8b028edc97cdea6756d5858655a3fdb24564190697f6a9"), looks := false }, kinds := [], alts := [], laidByText := true, laidKinds := [.wider], laidTests := true, laidLooks := .later }
def WireReadsUptoCardSaid : Prop := Claim7.holds Tryz.pinned (.plain (OpenSpec.upto wireReadsSpec)) wireReadsUptoCard

/-- THE SECOND FORM's CARD OF 'quidnunclaw16.WireCuts'. -/
def wireCutsUptoCard : Claim7 := { stood := { row := wireCutsUptoRow, standIns := [], harness := (true, "c64909ddbc32c108cd8b028edc97cdea6756d5858655a3fdb24564190697f6a9"), looks := false }, kinds := [], alts := [], laidByText := true, laidKinds := [.wider], laidTests := true, laidLooks := .later }
def WireCutsUptoCardSaid : Prop := Claim7.holds Tryz.pinned (.plain (OpenSpec.upto wireCutsSpec)) wireCutsUptoCard

/-- THE SECOND FORM's CARD OF 'quidnunclaw17.OverlayPlays'. -/
def overlayPlaysUptoCard : Claim7 := { stood := { row := overlayPlaysUptoRow, standIns := [], harness := (true, "c64909ddbc32c108cd8b028edc97cdea6756d5858655a3fdb24564190697f6a9"), looks := false }, kinds := [], alts := [], laidByText := true, laidKinds := [.wider], laidTests := true, laidLooks := .later }
def OverlayPlaysUptoCardSaid : Prop := Claim7.holds Tryz.pinned (.plain (OpenSpec.upto overlayPlaysSpec)) overlayPlaysUptoCard

/-- THE SECOND FORM's CARD OF 'quidnunclaw17.OverlayTells'. -/
def overlayTellsUptoCard : Claim7 := { stood := { row := overlayTellsUptoRow, standIns := [], harness := (true, "c64909ddbc32c108cd8b028edc97cdea6756d5858655a3fdb24564190697f6a9"), looks := false }, kinds := [], alts := [], laidByText := true, laidKinds := [.wider], laidTests := true, laidLooks := .later }
def OverlayTellsUptoCardSaid : Prop := Claim7.holds Tryz.pinned (.plain (OpenSpec.upto overlayTellsSpec)) overlayTellsUptoCard

/-- THE SECOND FORM's CARD OF 'quidnunclaw17.OverlayKeeps'. -/
def overlayKeepsUptoCard : Claim7 := { stood := { row := overlayKeepsUptoRow, standIns := [], harness := (true, "c64909ddbc32c108cd8b028edc97cdea6756d5858655a3fdb24564190697f6a9"), looks := false }, kinds := [], alts := [], laidByText := true, laidKinds := [.wider], laidTests := true, laidLooks := .later }
def OverlayKeepsUptoCardSaid : Prop := Claim7.holds Tryz.pinned (.plain (OpenSpec.upto overlayKeepsSpec)) overlayKeepsUptoCard

/-- THE SECOND FORM's CARD OF 'quidnunclaw17.OverlaySilent'. -/
def overlaySilentUptoCard : Claim7 := { stood := { row := overlaySilentUptoRow, standIns := [], harness := (true, "c64909ddbc32c108cd8b028edc97cdea6756d5858655a3fdb24564190697f6a9"), looks := false }, kinds := [], alts := [], laidByText := true, laidKinds := [.wider], laidTests := true, laidLooks := .later }
def OverlaySilentUptoCardSaid : Prop := Claim7.holds Tryz.pinned (.plain (OpenSpec.upto overlaySilentSpec)) overlaySilentUptoCard

/-- THE SECOND FORM's CARD OF 'quidnunclaw17.OverlayJoins'. -/
def overlayJoinsUptoCard : Claim7 := { stood := { row := overlayJoinsUptoRow, standIns := [], harness := (true, "c64909ddbc32c108cd8b028edc97cdea6756d5858655a3fdb24564190697f6a9"), looks := false }, kinds := [], alts := [], laidByText := true, laidKinds := [.wider], laidTests := true, laidLooks := .later }
def OverlayJoinsUptoCardSaid : Prop := Claim7.holds Tryz.pinned (.plain (OpenSpec.upto overlayJoinsSpec)) overlayJoinsUptoCard

/-- THE SECOND FORM's CARD OF 'quidnunclaw17.OverlayBeats'. -/
def overlayBeatsUptoCard : Claim7 := { stood := { row := overlayBeatsUptoRow, standIns := [], harness := (true, "c64909ddbc32c108cd8b028edc97cdea6756d5858655a3fdb24564190697f6a9"), looks := false }, kinds := [], alts := [], laidByText := true, laidKinds := [.wider], laidTests := true, laidLooks := .later }
def OverlayBeatsUptoCardSaid : Prop := Claim7.holds Tryz.pinned (.plain (OpenSpec.upto overlayBeatsSpec)) overlayBeatsUptoCard

/-- THE SECOND FORM's CARD OF 'quidnunclaw17.OverlayRefuses'. -/
def overlayRefusesUptoCard : Claim7 := { stood := { row := overlayRefusesUptoRow, standIns := [], harness := (true, "c64909ddbc32c108cd8b028edc97cdea6756d5858655a3fdb24564190697f6a9"), looks := false }, kinds := [], alts := [], laidByText := true, laidKinds := [.wider], laidTests := true, laidLooks := .later }
def OverlayRefusesUptoCardSaid : Prop := Claim7.holds Tryz.pinned (.plain (OpenSpec.upto overlayRefusesSpec)) overlayRefusesUptoCard
end Rows
end Go.Proofs.YtlieolehpmobfaaGreatDoor
