/- The law PrefixNil returns true for any number: a nil code has no words and reads nothing, nor does a code read from a nil reader. Condition: none. -/
import Derived.Test.YtokechaflhgmiaaWPNil
import Derived.Test.YtokechaflhgmiaaArgs
set_option linter.unusedVariables false
namespace Go.Proofs.Ytokechaflhgmiaa.prefixNil
open Go.ChangeShapes Go.WideShapes Go.ChangeAt Go.RowKit

theorem walk (w : World) (a0 : Int) (w0 : (Lit.int .i64 a0).wf = true) :
    Calls Try.prog 7 #[.int .i64 a0] w fun e w' => e = .returned (.bool true) ∧ Below w.heap.size w w' := by
  exact prefixnil_walk w a0

theorem shut (H : Type) (ds : List (DataW H)) (h : ds.length = Try.f7.params.size) : Rows.prefixNilSpec.fn H ds = { results := [.lit (.bool true)], args := ds } := by
  rw [Try.params7] at h
  have h' : ds.length = 1 := h
  rcases ds with _ | ⟨d0, _ | ⟨d1, r⟩⟩ <;> simp at h' <;> rfl
set_option maxRecDepth 100000 in
theorem lifted (os : Os) (started : os.Started) (H : Type) (enc : TypeId × Value → H) :
    ReturnsInHanded {} Try.checked os 7 .any (Rows.prefixNilSpec.pre6 enc Try.prog Try.f7 Rows.prefixNilRow.domain false) (Rows.prefixNilSpec.post enc Try.prog Try.f7 false true false false) := by
  refine law_lifted (tb := 4) Try.func7 (by kernel_rfl) shut rfl (by kernel_rfl) (by kernel_rfl) Try.underlying4 (by kernel_rfl) os started H enc
    (ChangeSpec.witness6 (enc := enc) (C := Try.checked) false ⟨#[], #[.int .i64 0], []⟩ 8 (by kernel_rfl) (by kernel_rfl) (by kernel_rfl) (by kernel_rfl)) ?_
  intro W args ds ps g
  rw [Try.params7] at g
  obtain ⟨a0, vs0, ds0, q0, e0, w0, g0_⟩ := Given.int_ g Try.underlying3
  have gn := Given.nil_ g0_
  subst gn
  obtain rfl : args = #[.int .i64 a0] := by cases args; simp_all
  exact walk W a0 w0

theorem over : Rows.prefixNilRow.holds Try.pinned (OpenSpec.ofChange Rows.prefixNilSpec) :=
  OpenClaim.holds_of_wide 7 Try.f7 rfl rfl rfl rfl rfl rfl rfl ⟨rfl, rfl, rfl, rfl, rfl⟩ rfl rfl rfl rfl rfl (by kernel_rfl) Try.func7 (by kernel_rfl)
    (of_decide_eq_true (by kernel_rfl)) (by unfold Func.isWrapper; first | (rw [if_pos (by decide +kernel)]; kernel_rfl) | (rw [if_neg (by decide +kernel)]; exact ⟨rfl, rfl⟩))
    (fun os started H enc _ => lifted os started H enc)
theorem proved : Rows.PrefixNilSaid := over
end Go.Proofs.Ytokechaflhgmiaa.prefixNil
