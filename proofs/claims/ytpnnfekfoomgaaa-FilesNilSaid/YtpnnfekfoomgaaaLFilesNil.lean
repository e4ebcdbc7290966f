/- The law FilesNil returns true for any name and any numbers: no files refuse, and have nothing. Condition: none. -/
import Derived.Test.YtpnnfekfoomgaaaWFNil
import Derived.Test.YtpnnfekfoomgaaaArgs
set_option linter.unusedVariables false
set_option maxRecDepth 100000
namespace Go.Proofs.Ytpnnfekfoomgaaa.filesNil
open Go.ChangeShapes Go.WideShapes Go.ChangeAt Go.RowKit

theorem walk {H : Type} {enc : TypeId × Value → H} (w : World) (v0 : Value) (d0 : DataW H) (p0 : List MemPlace) (g0 : One H enc (none : Option Nat) w 9 v0 d0 p0) (a1 : Int) (w1 : (Lit.int .i64 a1).wf = true) (a2 : Int) (w2 : (Lit.int .i64 a2).wf = true) :
    Calls Try.prog 5 #[v0, .int .i64 a1, .int .i64 a2] w fun e w' => e = .returned (.bool true) ∧ Below w.heap.size w w' := by
  obtain ⟨base0, hv0⟩ := g0.size
  obtain ⟨fuel0, hf0⟩ := g0.read
  obtain ⟨s, rfl, rfl, rfl, _⟩ := Go.ChangeMaps.open_string Try.underlying9 hv0 ⟨fuel0, hf0⟩
  exact filesnil_walk w s a1 a2

theorem shut (H : Type) (ds : List (DataW H)) (h : ds.length = Try.f5.params.size) : Rows.filesNilSpec.fn H ds = { results := [.lit (.bool true)], args := ds } := by
  rw [Try.params5] at h
  have h' : ds.length = 3 := h
  rcases ds with _ | ⟨d0, _ | ⟨d1, _ | ⟨d2, _ | ⟨d3, r⟩⟩⟩⟩ <;> simp at h' <;> rfl
set_option maxRecDepth 100000 in
theorem lifted (os : Os) (started : os.Started) (H : Type) (enc : TypeId × Value → H) :
    ReturnsInHanded {} Try.checked os 5 .any (Rows.filesNilSpec.pre6 enc Try.prog Try.f5 Rows.filesNilRow.domain false) (Rows.filesNilSpec.post enc Try.prog Try.f5 false true false false) := by
  refine law_lifted (tb := 4) Try.func5 (by kernel_rfl) shut rfl (by kernel_rfl) (by kernel_rfl) Try.underlying4 (by kernel_rfl) os started H enc
    (ChangeSpec.witness6 (enc := enc) (C := Try.checked) false ⟨#[], #[.string ⟨#[]⟩, .int .i64 0, .int .i64 0], []⟩ 8 (by kernel_rfl) (by kernel_rfl) (by kernel_rfl) (by kernel_rfl)) ?_
  intro W args ds ps g
  rw [Try.params5] at g
  obtain ⟨v0, vs0, d0, ds0, p0, q0, e0, o0, g0_⟩ := Given.one_ g
  obtain ⟨a1, vs1, ds1, q1, e1, w1, g1_⟩ := Given.int_ g0_ Try.underlying3
  obtain ⟨a2, vs2, ds2, q2, e2, w2, g2_⟩ := Given.int_ g1_ Try.underlying3
  have gn := Given.nil_ g2_
  subst gn
  subst e2
  subst e1
  obtain rfl : args = #[v0, .int .i64 a1, .int .i64 a2] := by cases args; simp_all
  exact walk W v0 d0 p0 o0 a1 w1 a2 w2

theorem over : Rows.filesNilRow.holds Try.pinned (OpenSpec.ofChange Rows.filesNilSpec) :=
  OpenClaim.holds_of_wide 5 Try.f5 rfl rfl rfl rfl rfl rfl rfl ⟨rfl, rfl, rfl, rfl, rfl⟩ rfl rfl rfl rfl rfl (by kernel_rfl) Try.func5 (by kernel_rfl)
    (of_decide_eq_true (by kernel_rfl)) (by unfold Func.isWrapper; first | (rw [if_pos (by decide +kernel)]; kernel_rfl) | (rw [if_neg (by decide +kernel)]; exact ⟨rfl, rfl⟩))
    (fun os started H enc _ => lifted os started H enc)
theorem proved : Rows.FilesNilSaid := over
end Go.Proofs.Ytpnnfekfoomgaaa.filesNil
