/- The law OctetNil returns true for every count: a nil reader is bad, and answers nothing. Condition: none. -/
import Derived.Test.YtkkgfphfilbcdaaOctFix
import Derived.Test.YtkkgfphfilbcdaaFrame
set_option linter.unusedVariables false
namespace Go.Proofs.Ytkkgfphfilbcdaa.octetNil
open Go.ChangeShapes Go.WideShapes Go.ChangeAt Go.RowKit

theorem walk (w : World) (a0 : Int) (w0 : (Lit.int .i64 a0).wf = true) :
    Calls Try.prog 14 #[.int .i64 a0] w fun e w' => e = .returned (.bool true) ∧ Below w.heap.size w w' := by
  go_enter Try.func14, Try.ntmps14
  go_wp2_with (first | (go_at_call 28; refine (octFixed _).mono ?_; rintro e w1 ⟨rfl, hb1⟩) | (go_at_call 40; refine (nilNum _ _).mono ?_; rintro e w' ⟨rfl, rfl⟩) | (go_at_call 42; refine (nilSigned _ _).mono ?_; rintro e w' ⟨rfl, rfl⟩) | (go_at_call 44; refine (nilBytes _ _).mono ?_; rintro e w' ⟨rfl, rfl⟩) | (go_at_call 39; refine (nilAt _).mono ?_; rintro e w' ⟨rfl, rfl⟩) | (go_at_call 46; refine (nilLeft _).mono ?_; rintro e w' ⟨rfl, rfl⟩) | (go_at_call 47; refine (nilBad _).mono ?_; rintro e w' ⟨rfl, rfl⟩))
  go_ret
  exact ⟨rfl, hb1⟩

theorem shut (H : Type) (ds : List (DataW H)) (h : ds.length = Try.f14.params.size) : Rows.octetNilSpec.fn H ds = { results := [.lit (.bool true)], args := ds } := by
  rw [Try.params14] at h
  have h' : ds.length = 1 := h
  rcases ds with _ | ⟨d0, _ | ⟨d1, r⟩⟩ <;> simp at h' <;> rfl
set_option maxRecDepth 100000 in
theorem lifted (os : Os) (started : os.Started) (H : Type) (enc : TypeId × Value → H) :
    ReturnsInHanded {} Try.checked os 14 .any (Rows.octetNilSpec.pre6 enc Try.prog Try.f14 Rows.octetNilRow.domain false) (Rows.octetNilSpec.post enc Try.prog Try.f14 false true false false) := by
  refine law_lifted (tb := 4) Try.func14 (by kernel_rfl) shut rfl (by kernel_rfl) (by kernel_rfl) Try.underlying4 (by kernel_rfl) os started H enc
    (ChangeSpec.witness6 (enc := enc) (C := Try.checked) false ⟨#[], #[.int .i64 0], []⟩ 8 (by kernel_rfl) (by kernel_rfl) (by kernel_rfl) (by kernel_rfl)) ?_
  intro W args ds ps g
  rw [Try.params14] at g
  obtain ⟨a0, vs0, ds0, q0, e0, w0, g0⟩ := Given.int_ g Try.underlying3
  have gn := Given.nil_ g0
  subst gn
  obtain rfl : args = #[.int .i64 a0] := by cases args; simp_all
  exact walk W a0 w0

theorem over : Rows.octetNilRow.holds Try.pinned (OpenSpec.ofChange Rows.octetNilSpec) :=
  OpenClaim.holds_of_wide 14 Try.f14 rfl rfl rfl rfl rfl rfl rfl ⟨rfl, rfl, rfl, rfl, rfl⟩ rfl rfl rfl rfl rfl (by kernel_rfl) Try.func14 (by kernel_rfl)
    (of_decide_eq_true (by kernel_rfl)) (by unfold Func.isWrapper; first | (rw [if_pos (by decide +kernel)]; kernel_rfl) | (rw [if_neg (by decide +kernel)]; exact ⟨rfl, rfl⟩))
    (fun os started H enc _ => lifted os started H enc)
theorem proved : Rows.OctetNilSaid := over
end Go.Proofs.Ytkkgfphfilbcdaa.octetNil
