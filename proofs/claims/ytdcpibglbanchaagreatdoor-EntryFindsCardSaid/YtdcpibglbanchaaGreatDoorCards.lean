/-
  DERIVED. GIVEN WITH THE SEED: THE CARDS: each row of YtdcpibglbanchaaGreatDoorRows.lean that lists a variable, with what it lists TIED to the program's text (the seventh form; the later family's looks); each row that meets fmt, with fmt's text TOLD by the authors' own Lean function (tested against real Go, not proved from fmt's source: count such statements apart). THE CARD IS WHAT COUNTS. Prove the row's statement (the work); the ties are given (YtdcpibglbanchaaGreatDoorTie.lean); close each card by the builder's one call (the guide's Derived/Test/ToyasCard.lean, 'card_holds'). Laid BY PROGRAM, IN A SANDBOX (cutbox-door.mjs). By AI agents, Wed Nov 11 2026. No macro, syntax, notation, axiom, sorry.
-/
import Derived.Test.YtdcpibglbanchaaGreatDoorRows
import GoSem.ClaimSeven
namespace Go.Proofs.YtdcpibglbanchaaGreatDoor
namespace Rows

/-- THE TIED CARD OF 'samovarlaw10.EntryFinds'. -/
def entryFindsCard : Claim7 := { stood := { row := entryFindsRow, standIns := [], harness := (true, "ca5753c6f5f8afd41c54bd2619a50209c1036137d0a2717ee3bef2a754e37044"), looks := false }, kinds := [], alts := [], laidByText := true, laidKinds := [.data, .data, .pinned], laidTests := true, laidLooks := .later }
def EntryFindsCardSaid : Prop := Claim7.holds Tryz.pinned (.plain (OpenSpec.ofChange entryFindsSpec)) entryFindsCard

/-- THE TIED CARD OF 'samovarlaw11.BundleMakes'. -/
def bundleMakesCard : Claim7 := { stood := { row := bundleMakesRow, standIns := [], harness := (true, "ca5753c6f5f8afd41c54bd2619a50209c1036137d0a2717ee3bef2a754e37044"), looks := false }, kinds := [], alts := [], laidByText := true, laidKinds := [.data, .data, .pinned], laidTests := true, laidLooks := .later }
def BundleMakesCardSaid : Prop := Claim7.holds Tryz.pinned (.plain (OpenSpec.ofChange bundleMakesSpec)) bundleMakesCard

/-- THE TIED CARD OF 'samovarlaw11.BundleSqueezes'. -/
def bundleSqueezesCard : Claim7 := { stood := { row := bundleSqueezesRow, standIns := [], harness := (true, "ca5753c6f5f8afd41c54bd2619a50209c1036137d0a2717ee3bef2a754e37044"), looks := false }, kinds := [], alts := [], laidByText := true, laidKinds := [.data, .data, .pinned], laidTests := true, laidLooks := .later }
def BundleSqueezesCardSaid : Prop := Claim7.holds Tryz.pinned (.plain (OpenSpec.ofChange bundleSqueezesSpec)) bundleSqueezesCard

/-- THE TIED CARD OF 'samovarlaw11.BundleBack'. -/
def bundleBackCard : Claim7 := { stood := { row := bundleBackRow, standIns := [], harness := (true, "ca5753c6f5f8afd41c54bd2619a50209c1036137d0a2717ee3bef2a754e37044"), looks := false }, kinds := [], alts := [], laidByText := true, laidKinds := [.data, .data, .pinned], laidTests := true, laidLooks := .later }
def BundleBackCardSaid : Prop := Claim7.holds Tryz.pinned (.plain (OpenSpec.ofChange bundleBackSpec)) bundleBackCard

/-- THE TIED CARD OF 'samovartop.TopPacked'. -/
def topPackedCard : Claim7 := { stood := { row := topPackedRow, standIns := [], harness := (true, "ca5753c6f5f8afd41c54bd2619a50209c1036137d0a2717ee3bef2a754e37044"), looks := false }, kinds := [], alts := [], laidByText := true, laidKinds := [.data, .data, .pinned], laidTests := true, laidLooks := .later }
def TopPackedCardSaid : Prop := Claim7.holds Tryz.pinned (.plain (OpenSpec.ofChange topPackedSpec)) topPackedCard

/-- THE TIED CARD OF 'samovartop.TopBombs'. -/
def topBombsCard : Claim7 := { stood := { row := topBombsRow, standIns := [], harness := (true, "ca5753c6f5f8afd41c54bd2619a50209c1036137d0a2717ee3bef2a754e37044"), looks := false }, kinds := [], alts := [], laidByText := true, laidKinds := [.data, .data, .pinned], laidTests := true, laidLooks := .later }
def TopBombsCardSaid : Prop := Claim7.holds Tryz.pinned (.plain (OpenSpec.ofChange topBombsSpec)) topBombsCard

/-- THE TIED CARD OF 'samovartop.TopDisagree'. -/
def topDisagreeCard : Claim7 := { stood := { row := topDisagreeRow, standIns := [], harness := (true, "ca5753c6f5f8afd41c54bd2619a50209c1036137d0a2717ee3bef2a754e37044"), looks := false }, kinds := [], alts := [], laidByText := true, laidKinds := [.data, .data, .pinned], laidTests := true, laidLooks := .later }
def TopDisagreeCardSaid : Prop := Claim7.holds Tryz.pinned (.plain (OpenSpec.ofChange topDisagreeSpec)) topDisagreeCard

/-- THE TIED CARD OF 'samovartop.TopOverlaps'. -/
def topOverlapsCard : Claim7 := { stood := { row := topOverlapsRow, standIns := [], harness := (true, "ca5753c6f5f8afd41c54bd2619a50209c1036137d0a2717ee3bef2a754e37044"), looks := false }, kinds := [], alts := [], laidByText := true, laidKinds := [.data, .data, .pinned], laidTests := true, laidLooks := .later }
def TopOverlapsCardSaid : Prop := Claim7.holds Tryz.pinned (.plain (OpenSpec.ofChange topOverlapsSpec)) topOverlapsCard

/-- THE SECOND FORM's CARD OF 'samovarlaw10.EntryFinds'. -/
def entryFindsUptoCard : Claim7 := { stood := { row := entryFindsUptoRow, standIns := [], harness := (true, "ca5753c6f5f8afd41c54bd2619a50209c1036137d0a2717ee3bef2a754e37044"), looks := false }, kinds := [], alts := [], laidByText := true, laidKinds := [.data, .data, .pinned], laidTests := true, laidLooks := .later }
def EntryFindsUptoCardSaid : Prop := Claim7.holds Tryz.pinned (.plain (OpenSpec.upto entryFindsSpec)) entryFindsUptoCard

/-- THE SECOND FORM's CARD OF 'samovarlaw11.BundleMakes'. -/
def bundleMakesUptoCard : Claim7 := { stood := { row := bundleMakesUptoRow, standIns := [], harness := (true, "ca5753c6f5f8afd41c54bd2619a50209c1036137d0a2717ee3bef2a754e37044"), looks := false }, kinds := [], alts := [], laidByText := true, laidKinds := [.data, .data, .pinned], laidTests := true, laidLooks := .later }
def BundleMakesUptoCardSaid : Prop := Claim7.holds Tryz.pinned (.plain (OpenSpec.upto bundleMakesSpec)) bundleMakesUptoCard

/-- THE SECOND FORM's CARD OF 'samovarlaw11.BundleSqueezes'. -/
def bundleSqueezesUptoCard : Claim7 := { stood := { row := bundleSqueezesUptoRow, standIns := [], harness := (true, "ca5753c6f5f8afd41c54bd2619a50209c1036137d0a2717ee3bef2a754e37044"), looks := false }, kinds := [], alts := [], laidByText := true, laidKinds := [.data, .data, .pinned], laidTests := true, laidLooks := .later }
def BundleSqueezesUptoCardSaid : Prop := Claim7.holds Tryz.pinned (.plain (OpenSpec.upto bundleSqueezesSpec)) bundleSqueezesUptoCard

/-- THE SECOND FORM's CARD OF 'samovarlaw11.BundleBack'. -/
def bundleBackUptoCard : Claim7 := { stood := { row := bundleBackUptoRow, standIns := [], harness := (true, "ca5753c6f5f8afd41c54bd2619a50209c1036137d0a2717ee3bef2a754e37044"), looks := false }, kinds := [], alts := [], laidByText := true, laidKinds := [.data, .data, .pinned], laidTests := true, laidLooks := .later }
def BundleBackUptoCardSaid : Prop := Claim7.holds Tryz.pinned (.plain (OpenSpec.upto bundleBackSpec)) bundleBackUptoCard

/-- THE SECOND FORM's CARD OF 'samovartop.TopPacked'. -/
def topPackedUptoCard : Claim7 := { stood := { row := topPackedUptoRow, standIns := [], harness := (true, "ca5753c6f5f8afd41c54bd2619a50209c1036137d0a2717ee3bef2a754e37044"), looks := false }, kinds := [], alts := [], laidByText := true, laidKinds := [.data, .data, .pinned], laidTests := true, laidLooks := .later }
def TopPackedUptoCardSaid : Prop := Claim7.holds Tryz.pinned (.plain (OpenSpec.upto topPackedSpec)) topPackedUptoCard

/-- THE SECOND FORM's CARD OF 'samovartop.TopBombs'. -/
def topBombsUptoCard : Claim7 := { stood := { row := topBombsUptoRow, standIns := [], harness := (true, "ca5753c6f5f8afd41c54bd2619a50209c1036137d0a2717ee3bef2a754e37044"), looks := false }, kinds := [], alts := [], laidByText := true, laidKinds := [.data, .data, .pinned], laidTests := true, laidLooks := .later }
def TopBombsUptoCardSaid : Prop := Claim7.holds Tryz.pinned (.plain (OpenSpec.upto topBombsSpec)) topBombsUptoCard

/-- THE SECOND FORM's CARD OF 'samovartop.TopDisagree'. -/
def topDisagreeUptoCard : Claim7 := { stood := { row := topDisagreeUptoRow, standIns := [], harness := (true, "ca5753c6f5f8afd41c54bd2619a50209c1036137d0a2717ee3bef2a754e37044"), looks := false }, kinds := [], alts := [], laidByText := true, laidKinds := [.data, .data, .pinned], laidTests := true, laidLooks := .later }
def TopDisagreeUptoCardSaid : Prop := Claim7.holds Tryz.pinned (.plain (OpenSpec.upto topDisagreeSpec)) topDisagreeUptoCard

/-- THE SECOND FORM's CARD OF 'samovartop.TopOverlaps'. -/
def topOverlapsUptoCard : Claim7 := { stood := { row := topOverlapsUptoRow, standIns := [], harness := (true, "ca5753c6f5f8afd41c54bd2619a50209c1036137d0a2717ee3bef2a754e37044"), looks := false }, kinds := [], alts := [], laidByText := true, laidKinds := [.data, .data, .pinned], laidTests := true, laidLooks := .later }
def TopOverlapsUptoCardSaid : Prop := Claim7.holds Tryz.pinned (.plain (OpenSpec.upto topOverlapsSpec)) topOverlapsUptoCard
end Rows
end Go.Proofs.YtdcpibglbanchaaGreatDoor
