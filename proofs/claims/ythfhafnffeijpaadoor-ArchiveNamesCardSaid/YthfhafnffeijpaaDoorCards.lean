/-
  DERIVED. GIVEN WITH THE SEED: THE CARDS: each row of YthfhafnffeijpaaDoorRows.lean that lists a variable, with what it lists TIED to the program's text (the seventh form; the later family's looks); each row that meets fmt, with fmt's text TOLD by the authors' own Lean function (tested against real Go, not proved from fmt's source: count such statements apart). THE CARD IS WHAT COUNTS. Prove the row's statement (the work); the ties are given (YthfhafnffeijpaaDoorTie.lean); close each card by the builder's one call (the guide's Derived/Test/ToyasCard.lean, 'card_holds'). Laid BY PROGRAM, IN A SANDBOX (cutbox-door.mjs). By AI agents, Wed Nov 11 2026. No macro, syntax, notation, axiom, sorry.
-/
import Derived.Test.YthfhafnffeijpaaDoorRows
import GoSem.ClaimSeven
namespace Go.Proofs.YthfhafnffeijpaaDoor
namespace Rows

/-- THE TIED CARD OF 'samovarlaw07.SqueezeBack'. -/
def squeezeBackCard : Claim7 := { stood := { row := squeezeBackRow, standIns := [], harness := (true, "9b0c8df2d265814fd1e32159ba04d25aee638c22475b3e85ad0d54752de95f0c"), looks := false }, kinds := [], alts := [], laidByText := true, laidKinds := [.data], laidTests := true, laidLooks := .later }
def SqueezeBackCardSaid : Prop := Claim7.holds Tryd.pinned (.plain (OpenSpec.ofChange squeezeBackSpec)) squeezeBackCard

/-- THE TIED CARD OF 'samovarlaw07.SqueezeMost'. -/
def squeezeMostCard : Claim7 := { stood := { row := squeezeMostRow, standIns := [], harness := (true, "9b0c8df2d265814fd1e32159ba04d25aee638c22475b3e85ad0d54752de95f0c"), looks := false }, kinds := [], alts := [], laidByText := true, laidKinds := [.data], laidTests := true, laidLooks := .later }
def SqueezeMostCardSaid : Prop := Claim7.holds Tryd.pinned (.plain (OpenSpec.ofChange squeezeMostSpec)) squeezeMostCard

/-- THE TIED CARD OF 'samovarlaw07.SqueezeRows'. -/
def squeezeRowsCard : Claim7 := { stood := { row := squeezeRowsRow, standIns := [], harness := (true, "9b0c8df2d265814fd1e32159ba04d25aee638c22475b3e85ad0d54752de95f0c"), looks := false }, kinds := [], alts := [], laidByText := true, laidKinds := [.data], laidTests := true, laidLooks := .later }
def SqueezeRowsCardSaid : Prop := Claim7.holds Tryd.pinned (.plain (OpenSpec.ofChange squeezeRowsSpec)) squeezeRowsCard

/-- THE TIED CARD OF 'samovarlaw07.SqueezeApart'. -/
def squeezeApartCard : Claim7 := { stood := { row := squeezeApartRow, standIns := [], harness := (true, "9b0c8df2d265814fd1e32159ba04d25aee638c22475b3e85ad0d54752de95f0c"), looks := false }, kinds := [], alts := [], laidByText := true, laidKinds := [.data], laidTests := true, laidLooks := .later }
def SqueezeApartCardSaid : Prop := Claim7.holds Tryd.pinned (.plain (OpenSpec.ofChange squeezeApartSpec)) squeezeApartCard

/-- THE TIED CARD OF 'samovarlaw09.ArchiveReads'. -/
def archiveReadsCard : Claim7 := { stood := { row := archiveReadsRow, standIns := [], harness := (true, "9b0c8df2d265814fd1e32159ba04d25aee638c22475b3e85ad0d54752de95f0c"), looks := false }, kinds := [], alts := [], laidByText := true, laidKinds := [.data, .pinned], laidTests := true, laidLooks := .later }
def ArchiveReadsCardSaid : Prop := Claim7.holds Tryd.pinned (.plain (OpenSpec.ofChange archiveReadsSpec)) archiveReadsCard

/-- THE TIED CARD OF 'samovarlaw09.ArchiveNames'. -/
def archiveNamesCard : Claim7 := { stood := { row := archiveNamesRow, standIns := [], harness := (true, "9b0c8df2d265814fd1e32159ba04d25aee638c22475b3e85ad0d54752de95f0c"), looks := false }, kinds := [], alts := [], laidByText := true, laidKinds := [.data, .pinned], laidTests := true, laidLooks := .later }
def ArchiveNamesCardSaid : Prop := Claim7.holds Tryd.pinned (.plain (OpenSpec.ofChange archiveNamesSpec)) archiveNamesCard

/-- THE TIED CARD OF 'samovarlaw09.ArchiveApart'. -/
def archiveApartCard : Claim7 := { stood := { row := archiveApartRow, standIns := [], harness := (true, "9b0c8df2d265814fd1e32159ba04d25aee638c22475b3e85ad0d54752de95f0c"), looks := false }, kinds := [], alts := [], laidByText := true, laidKinds := [.data, .pinned], laidTests := true, laidLooks := .later }
def ArchiveApartCardSaid : Prop := Claim7.holds Tryd.pinned (.plain (OpenSpec.ofChange archiveApartSpec)) archiveApartCard

/-- THE TIED CARD OF 'samovarlaw09.ArchiveTurned'. -/
def archiveTurnedCard : Claim7 := { stood := { row := archiveTurnedRow, standIns := [], harness := (true, "9b0c8df2d265814fd1e32159ba04d25aee638c22475b3e85ad0d54752de95f0c"), looks := false }, kinds := [], alts := [], laidByText := true, laidKinds := [.data, .pinned], laidTests := true, laidLooks := .later }
def ArchiveTurnedCardSaid : Prop := Claim7.holds Tryd.pinned (.plain (OpenSpec.ofChange archiveTurnedSpec)) archiveTurnedCard

/-- THE TIED CARD OF 'samovarlaw10.EntryHolds'. -/
def entryHoldsCard : Claim7 := { stood := { row := entryHoldsRow, standIns := [], harness := (true, "9b0c8df2d265814fd1e32159ba04d25aee638c22475b3e85ad0d54752de95f0c"), looks := false }, kinds := [], alts := [], laidByText := true, laidKinds := [.data, .data, .pinned], laidTests := true, laidLooks := .later }
def EntryHoldsCardSaid : Prop := Claim7.holds Tryd.pinned (.plain (OpenSpec.ofChange entryHoldsSpec)) entryHoldsCard

/-- THE TIED CARD OF 'samovarlaw10.EntryStored'. -/
def entryStoredCard : Claim7 := { stood := { row := entryStoredRow, standIns := [], harness := (true, "9b0c8df2d265814fd1e32159ba04d25aee638c22475b3e85ad0d54752de95f0c"), looks := false }, kinds := [], alts := [], laidByText := true, laidKinds := [.data, .data, .pinned], laidTests := true, laidLooks := .later }
def EntryStoredCardSaid : Prop := Claim7.holds Tryd.pinned (.plain (OpenSpec.ofChange entryStoredSpec)) entryStoredCard

/-- THE TIED CARD OF 'samovarlaw10.EntryApart'. -/
def entryApartCard : Claim7 := { stood := { row := entryApartRow, standIns := [], harness := (true, "9b0c8df2d265814fd1e32159ba04d25aee638c22475b3e85ad0d54752de95f0c"), looks := false }, kinds := [], alts := [], laidByText := true, laidKinds := [.data, .data, .pinned], laidTests := true, laidLooks := .later }
def EntryApartCardSaid : Prop := Claim7.holds Tryd.pinned (.plain (OpenSpec.ofChange entryApartSpec)) entryApartCard

/-- THE SECOND FORM's CARD OF 'samovarlaw07.SqueezeBack'. -/
def squeezeBackUptoCard : Claim7 := { stood := { row := squeezeBackUptoRow, standIns := [], harness := (true, "9b0c8df2d265814fd1e32159ba04d25aee638c22475b3e85ad0d54752de95f0c"), looks := false }, kinds := [], alts := [], laidByText := true, laidKinds := [.data], laidTests := true, laidLooks := .later }
def SqueezeBackUptoCardSaid : Prop := Claim7.holds Tryd.pinned (.plain (OpenSpec.upto squeezeBackSpec)) squeezeBackUptoCard

/-- THE SECOND FORM's CARD OF 'samovarlaw07.SqueezeMost'. -/
def squeezeMostUptoCard : Claim7 := { stood := { row := squeezeMostUptoRow, standIns := [], harness := (true, "9b0c8df2d265814fd1e32159ba04d25aee638c22475b3e85ad0d54752de95f0c"), looks := false }, kinds := [], alts := [], laidByText := true, laidKinds := [.data], laidTests := true, laidLooks := .later }
def SqueezeMostUptoCardSaid : Prop := Claim7.holds Tryd.pinned (.plain (OpenSpec.upto squeezeMostSpec)) squeezeMostUptoCard

/-- THE SECOND FORM's CARD OF 'samovarlaw07.SqueezeRows'. -/
def squeezeRowsUptoCard : Claim7 := { stood := { row := squeezeRowsUptoRow, standIns := [], harness := (true, "9b0c8df2d265814fd1e32159ba04d25aee638c22475b3e85ad0d54752de95f0c"), looks := false }, kinds := [], alts := [], laidByText := true, laidKinds := [.data], laidTests := true, laidLooks := .later }
def SqueezeRowsUptoCardSaid : Prop := Claim7.holds Tryd.pinned (.plain (OpenSpec.upto squeezeRowsSpec)) squeezeRowsUptoCard

/-- THE SECOND FORM's CARD OF 'samovarlaw07.SqueezeApart'. -/
def squeezeApartUptoCard : Claim7 := { stood := { row := squeezeApartUptoRow, standIns := [], harness := (true, "9b0c8df2d265814fd1e32159ba04d25aee638c22475b3e85ad0d54752de95f0c"), looks := false }, kinds := [], alts := [], laidByText := true, laidKinds := [.data], laidTests := true, laidLooks := .later }
def SqueezeApartUptoCardSaid : Prop := Claim7.holds Tryd.pinned (.plain (OpenSpec.upto squeezeApartSpec)) squeezeApartUptoCard

/-- THE SECOND FORM's CARD OF 'samovarlaw09.ArchiveReads'. -/
def archiveReadsUptoCard : Claim7 := { stood := { row := archiveReadsUptoRow, standIns := [], harness := (true, "9b0c8df2d265814fd1e32159ba04d25aee638c22475b3e85ad0d54752de95f0c"), looks := false }, kinds := [], alts := [], laidByText := true, laidKinds := [.data, .pinned], laidTests := true, laidLooks := .later }
def ArchiveReadsUptoCardSaid : Prop := Claim7.holds Tryd.pinned (.plain (OpenSpec.upto archiveReadsSpec)) archiveReadsUptoCard

/-- THE SECOND FORM's CARD OF 'samovarlaw09.ArchiveNames'. -/
def archiveNamesUptoCard : Claim7 := { stood := { row := archiveNamesUptoRow, standIns := [], harness := (true, "9b0c8df2d265814fd1e32159ba04d25aee638c22475b3e85ad0d54752de95f0c"), looks := false }, kinds := [], alts := [], laidByText := true, laidKinds := [.data, .pinned], laidTests := true, laidLooks := .later }
def ArchiveNamesUptoCardSaid : Prop := Claim7.holds Tryd.pinned (.plain (OpenSpec.upto archiveNamesSpec)) archiveNamesUptoCard

/-- THE SECOND FORM's CARD OF 'samovarlaw09.ArchiveApart'. -/
def archiveApartUptoCard : Claim7 := { stood := { row := archiveApartUptoRow, standIns := [], harness := (true, "9b0c8df2d265814fd1e32159ba04d25aee638c22475b3e85ad0d54752de95f0c"), looks := false }, kinds := [], alts := [], laidByText := true, laidKinds := [.data, .pinned], laidTests := true, laidLooks := .later }
def ArchiveApartUptoCardSaid : Prop := Claim7.holds Tryd.pinned (.plain (OpenSpec.upto archiveApartSpec)) archiveApartUptoCard

/-- THE SECOND FORM's CARD OF 'samovarlaw09.ArchiveTurned'. -/
def archiveTurnedUptoCard : Claim7 := { stood := { row := archiveTurnedUptoRow, standIns := [], harness := (true, "9b0c8df2d265814fd1e32159ba04d25aee638c22475b3e85ad0d54752de95f0c"), looks := false }, kinds := [], alts := [], laidByText := true, laidKinds := [.data, .pinned], laidTests := true, laidLooks := .later }
def ArchiveTurnedUptoCardSaid : Prop := Claim7.holds Tryd.pinned (.plain (OpenSpec.upto archiveTurnedSpec)) archiveTurnedUptoCard

/-- THE SECOND FORM's CARD OF 'samovarlaw10.EntryHolds'. -/
def entryHoldsUptoCard : Claim7 := { stood := { row := entryHoldsUptoRow, standIns := [], harness := (true, "9b0c8df2d265814fd1e32159ba04d25aee638c22475b3e85ad0d54752de95f0c"), looks := false }, kinds := [], alts := [], laidByText := true, laidKinds := [.data, .data, .pinned], laidTests := true, laidLooks := .later }
def EntryHoldsUptoCardSaid : Prop := Claim7.holds Tryd.pinned (.plain (OpenSpec.upto entryHoldsSpec)) entryHoldsUptoCard

/-- THE SECOND FORM's CARD OF 'samovarlaw10.EntryStored'. -/
def entryStoredUptoCard : Claim7 := { stood := { row := entryStoredUptoRow, standIns := [], harness := (true, "9b0c8df2d265814fd1e32159ba04d25aee638c22475b3e85ad0d54752de95f0c"), looks := false }, kinds := [], alts := [], laidByText := true, laidKinds := [.data, .data, .pinned], laidTests := true, laidLooks := .later }
def EntryStoredUptoCardSaid : Prop := Claim7.holds Tryd.pinned (.plain (OpenSpec.upto entryStoredSpec)) entryStoredUptoCard

/-- THE SECOND FORM's CARD OF 'samovarlaw10.EntryApart'. -/
def entryApartUptoCard : Claim7 := { stood := { row := entryApartUptoRow, standIns := [], harness := (true, "9b0c8df2d265814fd1e32159ba04d25aee638c22475b3e85ad0d54752de95f0c"), looks := false }, kinds := [], alts := [], laidByText := true, laidKinds := [.data, .data, .pinned], laidTests := true, laidLooks := .later }
def EntryApartUptoCardSaid : Prop := Claim7.holds Tryd.pinned (.plain (OpenSpec.upto entryApartSpec)) entryApartUptoCard
end Rows
end Go.Proofs.YthfhafnffeijpaaDoor
