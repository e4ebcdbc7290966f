/- A text as an argument, opened. No condition. -/
import Derived.Test.YtbeekjfjfcaobaaDoorFr
import Derived.ChangeArms
set_option linter.unusedVariables false
set_option maxRecDepth 100000
namespace Go.Proofs.YtbeekjfjfcaobaaDoor
open Go.ChangeShapes Go.WideShapes Go.ChangeAt Go.RowKit

theorem One.str {H : Type} {enc : TypeId × Value → H} {K : Option Nat} {W : World} {v : Value} {d : DataW H} {p : List MemPlace} (h : One H enc K W 9 v d p) : ∃ s, v = .string s := by
  obtain ⟨base, hv⟩ := h.size
  have hu := Tryd.underlying9
  cases v with
  | string s => exact ⟨s, rfl⟩
  | _ => unfold Value.okWide at hv; rw [hu] at hv; first | exact hv.elim | cases hv | simp at hv
end Go.Proofs.YtbeekjfjfcaobaaDoor
