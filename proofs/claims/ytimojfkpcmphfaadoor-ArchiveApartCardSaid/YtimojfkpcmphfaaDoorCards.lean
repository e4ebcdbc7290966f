/-
  DERIVED. GIVEN WITH THE SEED: THE CARDS: each row of YtimojfkpcmphfaaDoorRows.lean that lists a variable, with what it lists TIED to the program's text (the seventh form; the later family's looks); each row that meets fmt, with fmt's text TOLD by the authors' own Lean function (tested against real Go, not proved from fmt's source: count such statements apart). THE CARD IS WHAT COUNTS. Prove the row's statement (the work); the ties are given (YtimojfkpcmphfaaDoorTie.lean); close each card by the builder's one call (the guide's Derived/Test/ToyasCard.lean, 'card_holds'). Laid BY PROGRAM, IN A SANDBOX (cutbox-door.mjs). By AI agents, Wed Nov 11 2026. No macro, syntax, notation, axiom, sorry.
-/
import Derived.Test.YtimojfkpcmphfaaDoorRows
import GoSem.ClaimSeven
namespace Go.Proofs.YtimojfkpcmphfaaDoor
namespace Rows

/-- THE TIED CARD OF 'samovarlaw09.ArchiveReads'. -/
def archiveReadsCard : Claim7 := { stood := { row := archiveReadsRow, standIns := [], harness := (true, "7bd20200542751ca65614be6c8798a38d1ca4b3e2612e3f71fcaee19c7ad2604"), looks := false }, kinds := [], alts := [], laidByText := true, laidKinds := [.data, .pinned], laidTests := true, laidLooks := .later }
def ArchiveReadsCardSaid : Prop := Claim7.holds Tryd.pinned (.plain (OpenSpec.ofChange archiveReadsSpec)) archiveReadsCard

/-- THE TIED CARD OF 'samovarlaw09.ArchiveApart'. -/
def archiveApartCard : Claim7 := { stood := { row := archiveApartRow, standIns := [], harness := (true, "7bd20200542751ca65614be6c8798a38d1ca4b3e2612e3f71fcaee19c7ad2604"), looks := false }, kinds := [], alts := [], laidByText := true, laidKinds := [.data, .pinned], laidTests := true, laidLooks := .later }
def ArchiveApartCardSaid : Prop := Claim7.holds Tryd.pinned (.plain (OpenSpec.ofChange archiveApartSpec)) archiveApartCard

/-- THE TIED CARD OF 'samovarlaw09.ArchiveTurned'. -/
def archiveTurnedCard : Claim7 := { stood := { row := archiveTurnedRow, standIns := [], harness := (true, "7bd20200542751ca65614be6c8798a38d1ca4b3e2612e3f71fcaee19c7ad2604"), looks := false }, kinds := [], alts := [], laidByText := true, laidKinds := [.data, .pinned], laidTests := true, laidLooks := .later }
def ArchiveTurnedCardSaid : Prop := Claim7.holds Tryd.pinned (.plain (OpenSpec.ofChange archiveTurnedSpec)) archiveTurnedCard

/-- THE TIED CARD OF 'samovarlaw10.EntryApart'. -/
def entryApartCard : Claim7 := { stood := { row := entryApartRow, standIns := [], harness := (true, "7bd20200542751ca65614be6c8798a38d1ca4b3e2612e3f71fcaee19c7ad2604"), looks := false }, kinds := [], alts := [], laidByText := true, laidKinds := [.data, .data, .pinned], laidTests := true, laidLooks := .later }
def EntryApartCardSaid : Prop := Claim7.holds Tryd.pinned (.plain (OpenSpec.ofChange entryApartSpec)) entryApartCard

/-- THE SECOND FORM's CARD OF 'samovarlaw09.ArchiveReads'. -/
def archiveReadsUptoCard : Claim7 := { stood := { row := archiveReadsUptoRow, standIns := [], harness := (true, "7bd20200542751ca65614be6c8798a38d1ca4b3e2612e3f71fcaee19c7ad2604"), looks := false }, kinds := [], alts := [], laidByText := true, laidKinds := [.data, .pinned], laidTests := true, laidLooks := .later }
def ArchiveReadsUptoCardSaid : Prop := Claim7.holds Tryd.pinned (.plain (OpenSpec.upto archiveReadsSpec)) archiveReadsUptoCard

/-- THE SECOND FORM's CARD OF 'samovarlaw09.ArchiveApart'. -/
def archiveApartUptoCard : Claim7 := { stood := { row := archiveApartUptoRow, standIns := [], harness := (true, "7bd20200542751ca65614be6c8798a38d1ca4b3e2612e3f71fcaee19c7ad2604"), looks := false }, kinds := [], alts := [], laidByText := true, laidKinds := [.data, .pinned], laidTests := true, laidLooks := .later }
def ArchiveApartUptoCardSaid : Prop := Claim7.holds Tryd.pinned (.plain (OpenSpec.upto archiveApartSpec)) archiveApartUptoCard

/-- THE SECOND FORM's CARD OF 'samovarlaw09.ArchiveTurned'. -/
def archiveTurnedUptoCard : Claim7 := { stood := { row := archiveTurnedUptoRow, standIns := [], harness := (true, "7bd20200542751ca65614be6c8798a38d1ca4b3e2612e3f71fcaee19c7ad2604"), looks := false }, kinds := [], alts := [], laidByText := true, laidKinds := [.data, .pinned], laidTests := true, laidLooks := .later }
def ArchiveTurnedUptoCardSaid : Prop := Claim7.holds Tryd.pinned (.plain (OpenSpec.upto archiveTurnedSpec)) archiveTurnedUptoCard

/-- THE SECOND FORM's CARD OF 'samovarlaw10.EntryApart'. -/
def entryApartUptoCard : Claim7 := { stood := { row := entryApartUptoRow, standIns := [], harness := (true, "7bd20200542751ca65614be6c8798a38d1ca4b3e2612e3f71fcaee19c7ad2604"), looks := false }, kinds := [], alts := [], laidByText := true, laidKinds := [.data, .data, .pinned], laidTests := true, laidLooks := .later }
def EntryApartUptoCardSaid : Prop := Claim7.holds Tryd.pinned (.plain (OpenSpec.upto entryApartSpec)) entryApartUptoCard
end Rows
end Go.Proofs.YtimojfkpcmphfaaDoor
