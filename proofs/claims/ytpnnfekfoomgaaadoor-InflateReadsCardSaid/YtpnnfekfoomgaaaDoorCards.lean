/-
  DERIVED. GIVEN WITH THE SEED: THE CARDS: each row of YtpnnfekfoomgaaaDoorRows.lean that lists a variable, with what it lists TIED to the program's text (the seventh form; the later family's looks); each row that meets fmt, with fmt's text TOLD by the authors' own Lean function (tested against real Go, not proved from fmt's source: count such statements apart). THE CARD IS WHAT COUNTS. Prove the row's statement (the work); the ties are given (YtpnnfekfoomgaaaDoorTie.lean); close each card by the builder's one call (the guide's Derived/Test/ToyasCard.lean, 'card_holds'). Laid BY PROGRAM, IN A SANDBOX (cutbox-door.mjs). By AI agents, Wed Nov 11 2026. No macro, syntax, notation, axiom, sorry.
-/
import Derived.Test.YtpnnfekfoomgaaaDoorRows
import GoSem.ClaimSeven
namespace Go.Proofs.YtpnnfekfoomgaaaDoor
namespace Rows

/-- THE TIED CARD OF 'samovarlaw06.InflateReads'. -/
def inflateReadsCard : Claim7 := { stood := { row := inflateReadsRow, standIns := [], harness := (true, "c0cf72399c2b7b9dd5d8844f77c3da84d2c81a36423e31bd2c0aaedb0e5d2643"), looks := false }, kinds := [], alts := [], laidByText := true, laidKinds := [.data], laidTests := true, laidLooks := .later }
def InflateReadsCardSaid : Prop := Claim7.holds Tryd.pinned (.plain (OpenSpec.ofChange inflateReadsSpec)) inflateReadsCard

/-- THE TIED CARD OF 'samovarlaw06.InflateBehind'. -/
def inflateBehindCard : Claim7 := { stood := { row := inflateBehindRow, standIns := [], harness := (true, "c0cf72399c2b7b9dd5d8844f77c3da84d2c81a36423e31bd2c0aaedb0e5d2643"), looks := false }, kinds := [], alts := [], laidByText := true, laidKinds := [.data], laidTests := true, laidLooks := .later }
def InflateBehindCardSaid : Prop := Claim7.holds Tryd.pinned (.plain (OpenSpec.ofChange inflateBehindSpec)) inflateBehindCard

/-- THE TIED CARD OF 'samovarlaw06.InflateLimits'. -/
def inflateLimitsCard : Claim7 := { stood := { row := inflateLimitsRow, standIns := [], harness := (true, "c0cf72399c2b7b9dd5d8844f77c3da84d2c81a36423e31bd2c0aaedb0e5d2643"), looks := false }, kinds := [], alts := [], laidByText := true, laidKinds := [.data], laidTests := true, laidLooks := .later }
def InflateLimitsCardSaid : Prop := Claim7.holds Tryd.pinned (.plain (OpenSpec.ofChange inflateLimitsSpec)) inflateLimitsCard

/-- THE TIED CARD OF 'samovarlaw06.InflateStored'. -/
def inflateStoredCard : Claim7 := { stood := { row := inflateStoredRow, standIns := [], harness := (true, "c0cf72399c2b7b9dd5d8844f77c3da84d2c81a36423e31bd2c0aaedb0e5d2643"), looks := false }, kinds := [], alts := [], laidByText := true, laidKinds := [.data], laidTests := true, laidLooks := .later }
def InflateStoredCardSaid : Prop := Claim7.holds Tryd.pinned (.plain (OpenSpec.ofChange inflateStoredSpec)) inflateStoredCard

/-- THE TIED CARD OF 'samovarlaw07.SqueezeBack'. -/
def squeezeBackCard : Claim7 := { stood := { row := squeezeBackRow, standIns := [], harness := (true, "c0cf72399c2b7b9dd5d8844f77c3da84d2c81a36423e31bd2c0aaedb0e5d2643"), looks := false }, kinds := [], alts := [], laidByText := true, laidKinds := [.data], laidTests := true, laidLooks := .later }
def SqueezeBackCardSaid : Prop := Claim7.holds Tryd.pinned (.plain (OpenSpec.ofChange squeezeBackSpec)) squeezeBackCard

/-- THE TIED CARD OF 'samovarlaw07.SqueezeMost'. -/
def squeezeMostCard : Claim7 := { stood := { row := squeezeMostRow, standIns := [], harness := (true, "c0cf72399c2b7b9dd5d8844f77c3da84d2c81a36423e31bd2c0aaedb0e5d2643"), looks := false }, kinds := [], alts := [], laidByText := true, laidKinds := [.data], laidTests := true, laidLooks := .later }
def SqueezeMostCardSaid : Prop := Claim7.holds Tryd.pinned (.plain (OpenSpec.ofChange squeezeMostSpec)) squeezeMostCard

/-- THE TIED CARD OF 'samovarlaw07.SqueezeRows'. -/
def squeezeRowsCard : Claim7 := { stood := { row := squeezeRowsRow, standIns := [], harness := (true, "c0cf72399c2b7b9dd5d8844f77c3da84d2c81a36423e31bd2c0aaedb0e5d2643"), looks := false }, kinds := [], alts := [], laidByText := true, laidKinds := [.data], laidTests := true, laidLooks := .later }
def SqueezeRowsCardSaid : Prop := Claim7.holds Tryd.pinned (.plain (OpenSpec.ofChange squeezeRowsSpec)) squeezeRowsCard

/-- THE TIED CARD OF 'samovarlaw07.SqueezeApart'. -/
def squeezeApartCard : Claim7 := { stood := { row := squeezeApartRow, standIns := [], harness := (true, "c0cf72399c2b7b9dd5d8844f77c3da84d2c81a36423e31bd2c0aaedb0e5d2643"), looks := false }, kinds := [], alts := [], laidByText := true, laidKinds := [.data], laidTests := true, laidLooks := .later }
def SqueezeApartCardSaid : Prop := Claim7.holds Tryd.pinned (.plain (OpenSpec.ofChange squeezeApartSpec)) squeezeApartCard

/-- THE SECOND FORM's CARD OF 'samovarlaw06.InflateReads'. -/
def inflateReadsUptoCard : Claim7 := { stood := { row := inflateReadsUptoRow, standIns := [], harness := (true, "c0cf72399c2b7b9dd5d8844f77c3da84d2c81a36423e31bd2c0aaedb0e5d2643"), looks := false }, kinds := [], alts := [], laidByText := true, laidKinds := [.data], laidTests := true, laidLooks := .later }
def InflateReadsUptoCardSaid : Prop := Claim7.holds Tryd.pinned (.plain (OpenSpec.upto inflateReadsSpec)) inflateReadsUptoCard

/-- THE SECOND FORM's CARD OF 'samovarlaw06.InflateBehind'. -/
def inflateBehindUptoCard : Claim7 := { stood := { row := inflateBehindUptoRow, standIns := [], harness := (true, "c0cf72399c2b7b9dd5d8844f77c3da84d2c81a36423e31bd2c0aaedb0e5d2643"), looks := false }, kinds := [], alts := [], laidByText := true, laidKinds := [.data], laidTests := true, laidLooks := .later }
def InflateBehindUptoCardSaid : Prop := Claim7.holds Tryd.pinned (.plain (OpenSpec.upto inflateBehindSpec)) inflateBehindUptoCard

/-- THE SECOND FORM's CARD OF 'samovarlaw06.InflateLimits'. -/
def inflateLimitsUptoCard : Claim7 := { stood := { row := inflateLimitsUptoRow, standIns := [], harness := (true, "c0cf72399c2b7b9dd5d8844f77c3da84d2c81a36423e31bd2c0aaedb0e5d2643"), looks := false }, kinds := [], alts := [], laidByText := true, laidKinds := [.data], laidTests := true, laidLooks := .later }
def InflateLimitsUptoCardSaid : Prop := Claim7.holds Tryd.pinned (.plain (OpenSpec.upto inflateLimitsSpec)) inflateLimitsUptoCard

/-- THE SECOND FORM's CARD OF 'samovarlaw06.InflateStored'. -/
def inflateStoredUptoCard : Claim7 := { stood := { row := inflateStoredUptoRow, standIns := [], harness := (true, "c0cf72399c2b7b9dd5d8844f77c3da84d2c81a36423e31bd2c0aaedb0e5d2643"), looks := false }, kinds := [], alts := [], laidByText := true, laidKinds := [.data], laidTests := true, laidLooks := .later }
def InflateStoredUptoCardSaid : Prop := Claim7.holds Tryd.pinned (.plain (OpenSpec.upto inflateStoredSpec)) inflateStoredUptoCard

/-- THE SECOND FORM's CARD OF 'samovarlaw07.SqueezeBack'. -/
def squeezeBackUptoCard : Claim7 := { stood := { row := squeezeBackUptoRow, standIns := [], harness := (true, "c0cf72399c2b7b9dd5d8844f77c3da84d2c81a36423e31bd2c0aaedb0e5d2643"), looks := false }, kinds := [], alts := [], laidByText := true, laidKinds := [.data], laidTests := true, laidLooks := .later }
def SqueezeBackUptoCardSaid : Prop := Claim7.holds Tryd.pinned (.plain (OpenSpec.upto squeezeBackSpec)) squeezeBackUptoCard

/-- THE SECOND FORM's CARD OF 'samovarlaw07.SqueezeMost'. -/
def squeezeMostUptoCard : Claim7 := { stood := { row := squeezeMostUptoRow, standIns := [], harness := (true, "c0cf72399c2b7b9dd5d8844f77c3da84d2c81a36423e31bd2c0aaedb0e5d2643"), looks := false }, kinds := [], alts := [], laidByText := true, laidKinds := [.data], laidTests := true, laidLooks := .later }
def SqueezeMostUptoCardSaid : Prop := Claim7.holds Tryd.pinned (.plain (OpenSpec.upto squeezeMostSpec)) squeezeMostUptoCard

/-- THE SECOND FORM's CARD OF 'samovarlaw07.SqueezeRows'. -/
def squeezeRowsUptoCard : Claim7 := { stood := { row := squeezeRowsUptoRow, standIns := [], harness := (true, "c0cf72399c2b7b9dd5d8844f77c3da84d2c81a36423e31bd2c0aaedb0e5d2643"), looks := false }, kinds := [], alts := [], laidByText := true, laidKinds := [.data], laidTests := true, laidLooks := .later }
def SqueezeRowsUptoCardSaid : Prop := Claim7.holds Tryd.pinned (.plain (OpenSpec.upto squeezeRowsSpec)) squeezeRowsUptoCard

/-- THE SECOND FORM's CARD OF 'samovarlaw07.SqueezeApart'. -/
def squeezeApartUptoCard : Claim7 := { stood := { row := squeezeApartUptoRow, standIns := [], harness := (true, "c0cf72399c2b7b9dd5d8844f77c3da84d2c81a36423e31bd2c0aaedb0e5d2643"), looks := false }, kinds := [], alts := [], laidByText := true, laidKinds := [.data], laidTests := true, laidLooks := .later }
def SqueezeApartUptoCardSaid : Prop := Claim7.holds Tryd.pinned (.plain (OpenSpec.upto squeezeApartSpec)) squeezeApartUptoCard
end Rows
end Go.Proofs.YtpnnfekfoomgaaaDoor
