/- The law BitsNil returns true for any numbers: a nil reader and a nil writer refuse, and have nothing. Condition: none. -/
import Derived.Test.YtfgifimmdkiejaaWBNil
import Derived.Test.YtfgifimmdkiejaaArgs
set_option linter.unusedVariables false
namespace Go.Proofs.Ytfgifimmdkiejaa.bitsNil
open Go.ChangeShapes Go.WideShapes Go.ChangeAt Go.RowKit

theorem walk (w : World) (a0 : Int) (w0 : (Lit.int .i64 a0).wf = true) (a1 : Int) (w1 : (Lit.int .i64 a1).wf = true) :
    Calls Try.prog 11 #[.int .i64 a0, .int .i64 a1] w fun e w' => e = .returned (.bool true) ∧ Below w.heap.size w w' := by
  exact bitsnil_walk w a0 a1

theorem shut (H : Type) (ds : List (DataW H)) (h : ds.length = Try.f11.params.size) : Rows.bitsNilSpec.fn H ds = { results := [.lit (.bool true)], args := ds } := by
  rw [Try.params11] at h
  have h' : ds.length = 2 := h
  rcases ds with _ | ⟨d0, _ | ⟨d1, _ | ⟨d2, r⟩⟩⟩ <;> simp at h' <;> rfl
set_option maxRecDepth 100000 in
theorem lifted (os : Os) (started : os.Started) (H : Type) (enc : TypeId × Value → H) :
    ReturnsInHanded {} Try.checked os 11 .any (Rows.bitsNilSpec.pre6 enc Try.prog Try.f11 Rows.bitsNilRow.domain false) (Rows.bitsNilSpec.post enc Try.prog Try.f11 false true false false) := by
  refine law_lifted (tb := 4) Try.func11 (by kernel_rfl) shut rfl (by kernel_rfl) (by kernel_rfl) Try.underlying4 (by kernel_rfl) os started H enc
    (ChangeSpec.witness6 (enc := enc) (C := Try.checked) false ⟨#[], #[.int .i64 0, .int .i64 0], []⟩ 8 (by kernel_rfl) (by kernel_rfl) (by kernel_rfl) (by kernel_rfl)) ?_
  intro W args ds ps g
  rw [Try.params11] at g
  obtain ⟨a0, vs0, ds0, q0, e0, w0, g0_⟩ := Given.int_ g Try.underlying3
  obtain ⟨a1, vs1, ds1, q1, e1, w1, g1_⟩ := Given.int_ g0_ Try.underlying3
  have gn := Given.nil_ g1_
  subst gn
  subst e1
  obtain rfl : args = #[.int .i64 a0, .int .i64 a1] := by cases args; simp_all
  exact walk W a0 w0 a1 w1

theorem over : Rows.bitsNilRow.holds Try.pinned (OpenSpec.ofChange Rows.bitsNilSpec) :=
  OpenClaim.holds_of_wide 11 Try.f11 rfl rfl rfl rfl rfl rfl rfl ⟨rfl, rfl, rfl, rfl, rfl⟩ rfl rfl rfl rfl rfl (by kernel_rfl) Try.func11 (by kernel_rfl)
    (of_decide_eq_true (by kernel_rfl)) (by unfold Func.isWrapper; first | (rw [if_pos (by decide +kernel)]; kernel_rfl) | (rw [if_neg (by decide +kernel)]; exact ⟨rfl, rfl⟩))
    (fun os started H enc _ => lifted os started H enc)
theorem proved : Rows.BitsNilSaid := over
end Go.Proofs.Ytfgifimmdkiejaa.bitsNil
