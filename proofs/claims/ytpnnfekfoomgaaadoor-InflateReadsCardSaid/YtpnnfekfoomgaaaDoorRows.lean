/-
  NARROWER THAN 'FOR EVERY INPUT', by the rows' own cells (each row's printed sentence says how): InflateReads: laid · InflateBehind: laid · InflateLimits: laid · InflateStored: laid · SqueezeBack: laid · SqueezeMost: laid · SqueezeRows: laid · SqueezeApart: laid.
  DERIVED. THE GIVEN ROWS OF THIS SEAT. 8 by the template 'for every input the law returns true; each argument reads behind the call as it read before'; 0 by the template 'total and deterministic' (their statements: YtpnnfekfoomgaaaDoorTotals.lean).
  GIVEN WITH THE SEED: the statements are not yours to turn. If you find one false, say at which input.
  Laid BY PROGRAM, IN A SANDBOX (cutbox-rows.mjs): the forced cells as the released guide's own fill.sh prints them over the translation c6bd413613789a30… (all of the seat's roots in one cut). By AI agents, Wed Nov 11 2026. No macro, syntax, notation, axiom, sorry.
-/
import Derived.Test.YtpnnfekfoomgaaaDoorChecked
import GoSem.Claim
import GoSem.ClaimJoined
import GoSem.ClaimMapViews
import Derived.JoinedTies
import Derived.KernelRfl
namespace Go.Proofs.YtpnnfekfoomgaaaDoor
/- THE CELL 'sum', in the pinned program and in every row, IS THE sha256 OF THE DUMP (.gsa) THAT YtpnnfekfoomgaaaDoorProg.lean LOADS. Nothing in Lean hashes anything: it is a label: what it is worth is what the hold of that sum in a sandbox is worth. -/
noncomputable def Tryd.pinned : Pinned := { name := "ytpnnfekfoomgaaadoor", sum := "c6bd413613789a3081ff89a57aa8dae77d53a51a8d9cf3f1b2394b552c75ffae", checked := Tryd.checked }
namespace Rows
def none {H : Type} : Left H := { results := [], args := [] }

/- WHAT THE LISTED PACKAGE-LEVEL VARIABLES READ AS WHEN THE CALL BEGINS. Each datum BY PROGRAM (the guide's laid-datum.mjs) off the statement by which the dump's own 'gosem.cut.vars' lays the variable. In a bare row this is a premise. The card (YtpnnfekfoomgaaaDoorCards.lean) ties it to the program's text. -/
def laid_samovar_inflate_order {H : Type} : DataW H := .agg [.lit (.int .i64 16), .lit (.int .i64 17), .lit (.int .i64 18), .lit (.int .i64 0), .lit (.int .i64 8), .lit (.int .i64 7), .lit (.int .i64 9), .lit (.int .i64 6), .lit (.int .i64 10), .lit (.int .i64 5), .lit (.int .i64 11), .lit (.int .i64 4), .lit (.int .i64 12), .lit (.int .i64 3), .lit (.int .i64 13), .lit (.int .i64 2), .lit (.int .i64 14), .lit (.int .i64 1), .lit (.int .i64 15)]

/-- 'samovarlaw06.InflateReads': WHATEVER THE INPUT: true; the input reads as it did. -/
def inflateReadsSpec : ChangeSpec := { name := "inflateReads", fn := fun _ => fun
  | [d1, d2] => { results := [.lit (.bool true)], args := [d1, d2] }
  | _ => none }
def inflateReadsRow : OpenClaim := { program := "ytpnnfekfoomgaaadoor", sum := "c6bd413613789a3081ff89a57aa8dae77d53a51a8d9cf3f1b2394b552c75ffae", func := "samovar/samovarlaw06.InflateReads", spec := "inflateReads", named := ["samovar/inflate.order"], plainKeys := false, apart := false, laid := [("samovar/inflate.order", laid_samovar_inflate_order)] }
def InflateReadsSaid : Prop := inflateReadsRow.holds Tryd.pinned (OpenSpec.ofChange inflateReadsSpec)

/-- ITS FALSE NEIGHBOUR: 'it returns false'. Refute it at one input. -/
def inflateReadsWrong : ChangeSpec := { name := "inflateReads", fn := fun _ => fun
  | [d1, d2] => { results := [.lit (.bool false)], args := [d1, d2] }
  | _ => none }
def InflateReadsWrongFalsely : Prop := inflateReadsRow.holds Tryd.pinned (OpenSpec.ofChange inflateReadsWrong)

/-- 'samovarlaw06.InflateBehind': WHATEVER THE INPUT: true; the input reads as it did. -/
def inflateBehindSpec : ChangeSpec := { name := "inflateBehind", fn := fun _ => fun
  | [d1, d2, d3] => { results := [.lit (.bool true)], args := [d1, d2, d3] }
  | _ => none }
def inflateBehindRow : OpenClaim := { program := "ytpnnfekfoomgaaadoor", sum := "c6bd413613789a3081ff89a57aa8dae77d53a51a8d9cf3f1b2394b552c75ffae", func := "samovar/samovarlaw06.InflateBehind", spec := "inflateBehind", named := ["samovar/inflate.order"], plainKeys := false, apart := false, laid := [("samovar/inflate.order", laid_samovar_inflate_order)] }
def InflateBehindSaid : Prop := inflateBehindRow.holds Tryd.pinned (OpenSpec.ofChange inflateBehindSpec)

/-- ITS FALSE NEIGHBOUR: 'it returns false'. Refute it at one input. -/
def inflateBehindWrong : ChangeSpec := { name := "inflateBehind", fn := fun _ => fun
  | [d1, d2, d3] => { results := [.lit (.bool false)], args := [d1, d2, d3] }
  | _ => none }
def InflateBehindWrongFalsely : Prop := inflateBehindRow.holds Tryd.pinned (OpenSpec.ofChange inflateBehindWrong)

/-- 'samovarlaw06.InflateLimits': WHATEVER THE INPUT: true; the input reads as it did. -/
def inflateLimitsSpec : ChangeSpec := { name := "inflateLimits", fn := fun _ => fun
  | [d1, d2, d3] => { results := [.lit (.bool true)], args := [d1, d2, d3] }
  | _ => none }
def inflateLimitsRow : OpenClaim := { program := "ytpnnfekfoomgaaadoor", sum := "c6bd413613789a3081ff89a57aa8dae77d53a51a8d9cf3f1b2394b552c75ffae", func := "samovar/samovarlaw06.InflateLimits", spec := "inflateLimits", named := ["samovar/inflate.order"], plainKeys := false, apart := false, laid := [("samovar/inflate.order", laid_samovar_inflate_order)] }
def InflateLimitsSaid : Prop := inflateLimitsRow.holds Tryd.pinned (OpenSpec.ofChange inflateLimitsSpec)

/-- ITS FALSE NEIGHBOUR: 'it returns false'. Refute it at one input. -/
def inflateLimitsWrong : ChangeSpec := { name := "inflateLimits", fn := fun _ => fun
  | [d1, d2, d3] => { results := [.lit (.bool false)], args := [d1, d2, d3] }
  | _ => none }
def InflateLimitsWrongFalsely : Prop := inflateLimitsRow.holds Tryd.pinned (OpenSpec.ofChange inflateLimitsWrong)

/-- 'samovarlaw06.InflateStored': WHATEVER THE INPUT: true; the input reads as it did. -/
def inflateStoredSpec : ChangeSpec := { name := "inflateStored", fn := fun _ => fun
  | [d] => { results := [.lit (.bool true)], args := [d] }
  | _ => none }
def inflateStoredRow : OpenClaim := { program := "ytpnnfekfoomgaaadoor", sum := "c6bd413613789a3081ff89a57aa8dae77d53a51a8d9cf3f1b2394b552c75ffae", func := "samovar/samovarlaw06.InflateStored", spec := "inflateStored", named := ["samovar/inflate.order"], plainKeys := false, apart := false, laid := [("samovar/inflate.order", laid_samovar_inflate_order)] }
def InflateStoredSaid : Prop := inflateStoredRow.holds Tryd.pinned (OpenSpec.ofChange inflateStoredSpec)

/-- ITS FALSE NEIGHBOUR: 'it returns false'. Refute it at one input. -/
def inflateStoredWrong : ChangeSpec := { name := "inflateStored", fn := fun _ => fun
  | [d] => { results := [.lit (.bool false)], args := [d] }
  | _ => none }
def InflateStoredWrongFalsely : Prop := inflateStoredRow.holds Tryd.pinned (OpenSpec.ofChange inflateStoredWrong)

/-- 'samovarlaw07.SqueezeBack': WHATEVER THE INPUT: true; the input reads as it did. -/
def squeezeBackSpec : ChangeSpec := { name := "squeezeBack", fn := fun _ => fun
  | [d] => { results := [.lit (.bool true)], args := [d] }
  | _ => none }
def squeezeBackRow : OpenClaim := { program := "ytpnnfekfoomgaaadoor", sum := "c6bd413613789a3081ff89a57aa8dae77d53a51a8d9cf3f1b2394b552c75ffae", func := "samovar/samovarlaw07.SqueezeBack", spec := "squeezeBack", named := ["samovar/inflate.order"], plainKeys := false, apart := false, laid := [("samovar/inflate.order", laid_samovar_inflate_order)] }
def SqueezeBackSaid : Prop := squeezeBackRow.holds Tryd.pinned (OpenSpec.ofChange squeezeBackSpec)

/-- ITS FALSE NEIGHBOUR: 'it returns false'. Refute it at one input. -/
def squeezeBackWrong : ChangeSpec := { name := "squeezeBack", fn := fun _ => fun
  | [d] => { results := [.lit (.bool false)], args := [d] }
  | _ => none }
def SqueezeBackWrongFalsely : Prop := squeezeBackRow.holds Tryd.pinned (OpenSpec.ofChange squeezeBackWrong)

/-- 'samovarlaw07.SqueezeMost': WHATEVER THE INPUT: true; the input reads as it did. -/
def squeezeMostSpec : ChangeSpec := { name := "squeezeMost", fn := fun _ => fun
  | [d] => { results := [.lit (.bool true)], args := [d] }
  | _ => none }
def squeezeMostRow : OpenClaim := { program := "ytpnnfekfoomgaaadoor", sum := "c6bd413613789a3081ff89a57aa8dae77d53a51a8d9cf3f1b2394b552c75ffae", func := "samovar/samovarlaw07.SqueezeMost", spec := "squeezeMost", named := ["samovar/inflate.order"], plainKeys := false, apart := false, laid := [("samovar/inflate.order", laid_samovar_inflate_order)] }
def SqueezeMostSaid : Prop := squeezeMostRow.holds Tryd.pinned (OpenSpec.ofChange squeezeMostSpec)

/-- ITS FALSE NEIGHBOUR: 'it returns false'. Refute it at one input. -/
def squeezeMostWrong : ChangeSpec := { name := "squeezeMost", fn := fun _ => fun
  | [d] => { results := [.lit (.bool false)], args := [d] }
  | _ => none }
def SqueezeMostWrongFalsely : Prop := squeezeMostRow.holds Tryd.pinned (OpenSpec.ofChange squeezeMostWrong)

/-- 'samovarlaw07.SqueezeRows': WHATEVER THE INPUT: true; the input reads as it did. -/
def squeezeRowsSpec : ChangeSpec := { name := "squeezeRows", fn := fun _ => fun
  | [d1, d2] => { results := [.lit (.bool true)], args := [d1, d2] }
  | _ => none }
def squeezeRowsRow : OpenClaim := { program := "ytpnnfekfoomgaaadoor", sum := "c6bd413613789a3081ff89a57aa8dae77d53a51a8d9cf3f1b2394b552c75ffae", func := "samovar/samovarlaw07.SqueezeRows", spec := "squeezeRows", named := ["samovar/inflate.order"], plainKeys := false, apart := false, laid := [("samovar/inflate.order", laid_samovar_inflate_order)] }
def SqueezeRowsSaid : Prop := squeezeRowsRow.holds Tryd.pinned (OpenSpec.ofChange squeezeRowsSpec)

/-- ITS FALSE NEIGHBOUR: 'it returns false'. Refute it at one input. -/
def squeezeRowsWrong : ChangeSpec := { name := "squeezeRows", fn := fun _ => fun
  | [d1, d2] => { results := [.lit (.bool false)], args := [d1, d2] }
  | _ => none }
def SqueezeRowsWrongFalsely : Prop := squeezeRowsRow.holds Tryd.pinned (OpenSpec.ofChange squeezeRowsWrong)

/-- 'samovarlaw07.SqueezeApart': WHATEVER THE INPUT: true; the input reads as it did. -/
def squeezeApartSpec : ChangeSpec := { name := "squeezeApart", fn := fun _ => fun
  | [d1, d2] => { results := [.lit (.bool true)], args := [d1, d2] }
  | _ => none }
def squeezeApartRow : OpenClaim := { program := "ytpnnfekfoomgaaadoor", sum := "c6bd413613789a3081ff89a57aa8dae77d53a51a8d9cf3f1b2394b552c75ffae", func := "samovar/samovarlaw07.SqueezeApart", spec := "squeezeApart", named := ["samovar/inflate.order"], plainKeys := false, apart := false, laid := [("samovar/inflate.order", laid_samovar_inflate_order)] }
def SqueezeApartSaid : Prop := squeezeApartRow.holds Tryd.pinned (OpenSpec.ofChange squeezeApartSpec)

/-- ITS FALSE NEIGHBOUR: 'it returns false'. Refute it at one input. -/
def squeezeApartWrong : ChangeSpec := { name := "squeezeApart", fn := fun _ => fun
  | [d1, d2] => { results := [.lit (.bool false)], args := [d1, d2] }
  | _ => none }
def SqueezeApartWrongFalsely : Prop := squeezeApartRow.holds Tryd.pinned (OpenSpec.ofChange squeezeApartWrong)

/- THE SECOND FORM. 'bulk': how many values and letters a reading holds, each counted each time it is reached (what is shared counts as often as it is met; a slice's spare places count too). A statement '..UptoSaid' is the law's where the arguments, and the package variables that the reading takes, are together of bulk at most 1048576: NARROWER than '..Said'. Prove '..Said' where nothing that the law and all that it calls make is longer than what came in: it says more and counts as full. Else prove '..UptoSaid'. A law counts once. -/
mutual
def uptoBulk {H : Type} : DataW H → Nat
  | .lit (.string bytes) => bytes.length + 1
  | .lit _ => 1
  | .nil => 1
  | .ptr d => uptoBulk d + 1
  | .slice elems spare => uptoBulkAll elems + uptoBulkAll spare + 1
  | .agg parts => uptoBulkAll parts + 1
  | .iface _ d => uptoBulk d + 1
  | .map entries => uptoBulkEntries entries + 1
  | .held _ => 1
def uptoBulkAll {H : Type} : List (DataW H) → Nat
  | [] => 0
  | d :: r => uptoBulk d + uptoBulkAll r
def uptoBulkEntries {H : Type} : List (Lit × DataW H) → Nat
  | [] => 0
  | x :: r => uptoBulkEntry x + uptoBulkEntries r
def uptoBulkEntry {H : Type} : Lit × DataW H → Nat
  | (.string bytes, d) => bytes.length + uptoBulk d + 1
  | (_, d) => uptoBulk d + 1
 end
def uptoSmall : (H : Type) → List (DataW H) → Bool := fun _ ds => decide (uptoBulkAll ds ≤ 1048576)
def OpenSpec.upto (s : _root_.Go.ChangeSpec) : _root_.Go.OpenSpec := { _root_.Go.OpenSpec.ofChange s with cond := some uptoSmall }

/-- 'samovarlaw06.InflateReads', WHERE WHAT IT READS IS OF BULK AT MOST 1048576: true; the input reads as it did. -/
def inflateReadsUptoRow : OpenClaim := { program := "ytpnnfekfoomgaaadoor", sum := "c6bd413613789a3081ff89a57aa8dae77d53a51a8d9cf3f1b2394b552c75ffae", func := "samovar/samovarlaw06.InflateReads", spec := "inflateReads", named := ["samovar/inflate.order"], plainKeys := false, apart := false, laid := [("samovar/inflate.order", laid_samovar_inflate_order)], narrowed := true }
def InflateReadsUptoSaid : Prop := inflateReadsUptoRow.holds Tryd.pinned (OpenSpec.upto inflateReadsSpec)

/-- 'samovarlaw06.InflateBehind', WHERE WHAT IT READS IS OF BULK AT MOST 1048576: true; the input reads as it did. -/
def inflateBehindUptoRow : OpenClaim := { program := "ytpnnfekfoomgaaadoor", sum := "c6bd413613789a3081ff89a57aa8dae77d53a51a8d9cf3f1b2394b552c75ffae", func := "samovar/samovarlaw06.InflateBehind", spec := "inflateBehind", named := ["samovar/inflate.order"], plainKeys := false, apart := false, laid := [("samovar/inflate.order", laid_samovar_inflate_order)], narrowed := true }
def InflateBehindUptoSaid : Prop := inflateBehindUptoRow.holds Tryd.pinned (OpenSpec.upto inflateBehindSpec)

/-- 'samovarlaw06.InflateLimits', WHERE WHAT IT READS IS OF BULK AT MOST 1048576: true; the input reads as it did. -/
def inflateLimitsUptoRow : OpenClaim := { program := "ytpnnfekfoomgaaadoor", sum := "c6bd413613789a3081ff89a57aa8dae77d53a51a8d9cf3f1b2394b552c75ffae", func := "samovar/samovarlaw06.InflateLimits", spec := "inflateLimits", named := ["samovar/inflate.order"], plainKeys := false, apart := false, laid := [("samovar/inflate.order", laid_samovar_inflate_order)], narrowed := true }
def InflateLimitsUptoSaid : Prop := inflateLimitsUptoRow.holds Tryd.pinned (OpenSpec.upto inflateLimitsSpec)

/-- 'samovarlaw06.InflateStored', WHERE WHAT IT READS IS OF BULK AT MOST 1048576: true; the input reads as it did. -/
def inflateStoredUptoRow : OpenClaim := { program := "ytpnnfekfoomgaaadoor", sum := "c6bd413613789a3081ff89a57aa8dae77d53a51a8d9cf3f1b2394b552c75ffae", func := "samovar/samovarlaw06.InflateStored", spec := "inflateStored", named := ["samovar/inflate.order"], plainKeys := false, apart := false, laid := [("samovar/inflate.order", laid_samovar_inflate_order)], narrowed := true }
def InflateStoredUptoSaid : Prop := inflateStoredUptoRow.holds Tryd.pinned (OpenSpec.upto inflateStoredSpec)

/-- 'samovarlaw07.SqueezeBack', WHERE WHAT IT READS IS OF BULK AT MOST 1048576: true; the input reads as it did. -/
def squeezeBackUptoRow : OpenClaim := { program := "ytpnnfekfoomgaaadoor", sum := "c6bd413613789a3081ff89a57aa8dae77d53a51a8d9cf3f1b2394b552c75ffae", func := "samovar/samovarlaw07.SqueezeBack", spec := "squeezeBack", named := ["samovar/inflate.order"], plainKeys := false, apart := false, laid := [("samovar/inflate.order", laid_samovar_inflate_order)], narrowed := true }
def SqueezeBackUptoSaid : Prop := squeezeBackUptoRow.holds Tryd.pinned (OpenSpec.upto squeezeBackSpec)

/-- 'samovarlaw07.SqueezeMost', WHERE WHAT IT READS IS OF BULK AT MOST 1048576: true; the input reads as it did. -/
def squeezeMostUptoRow : OpenClaim := { program := "ytpnnfekfoomgaaadoor", sum := "c6bd413613789a3081ff89a57aa8dae77d53a51a8d9cf3f1b2394b552c75ffae", func := "samovar/samovarlaw07.SqueezeMost", spec := "squeezeMost", named := ["samovar/inflate.order"], plainKeys := false, apart := false, laid := [("samovar/inflate.order", laid_samovar_inflate_order)], narrowed := true }
def SqueezeMostUptoSaid : Prop := squeezeMostUptoRow.holds Tryd.pinned (OpenSpec.upto squeezeMostSpec)

/-- 'samovarlaw07.SqueezeRows', WHERE WHAT IT READS IS OF BULK AT MOST 1048576: true; the input reads as it did. -/
def squeezeRowsUptoRow : OpenClaim := { program := "ytpnnfekfoomgaaadoor", sum := "c6bd413613789a3081ff89a57aa8dae77d53a51a8d9cf3f1b2394b552c75ffae", func := "samovar/samovarlaw07.SqueezeRows", spec := "squeezeRows", named := ["samovar/inflate.order"], plainKeys := false, apart := false, laid := [("samovar/inflate.order", laid_samovar_inflate_order)], narrowed := true }
def SqueezeRowsUptoSaid : Prop := squeezeRowsUptoRow.holds Tryd.pinned (OpenSpec.upto squeezeRowsSpec)

/-- 'samovarlaw07.SqueezeApart', WHERE WHAT IT READS IS OF BULK AT MOST 1048576: true; the input reads as it did. -/
def squeezeApartUptoRow : OpenClaim := { program := "ytpnnfekfoomgaaadoor", sum := "c6bd413613789a3081ff89a57aa8dae77d53a51a8d9cf3f1b2394b552c75ffae", func := "samovar/samovarlaw07.SqueezeApart", spec := "squeezeApart", named := ["samovar/inflate.order"], plainKeys := false, apart := false, laid := [("samovar/inflate.order", laid_samovar_inflate_order)], narrowed := true }
def SqueezeApartUptoSaid : Prop := squeezeApartUptoRow.holds Tryd.pinned (OpenSpec.upto squeezeApartSpec)

end Rows
end Go.Proofs.YtpnnfekfoomgaaaDoor
