/- The law BitsWrites returns true for any row of asks: a writer of package bits has, behind each of them, the bits and bytes that the document's own writer has; what it answers is new memory. Condition: none. -/
import Derived.Test.YtfgifimmdkiejaaWBWrites
import Derived.Test.YtfgifimmdkiejaaArgs
set_option linter.unusedVariables false
namespace Go.Proofs.Ytfgifimmdkiejaa.bitsWrites
open Go.ChangeShapes Go.WideShapes Go.ChangeAt Go.RowKit

theorem walk {H : Type} {enc : TypeId × Value → H} (w : World) (v0 : Value) (d0 : DataW H) (p0 : List MemPlace) (g0 : One H enc (none : Option Nat) w 39 v0 d0 p0) :
    Calls Try.prog 9 #[v0] w fun e w' => e = .returned (.bool true) ∧ Below w.heap.size w w' := by
  obtain ⟨a1, n1, c1, l1, rfl, hl1, hm1, hk1⟩ := One.asks g0 Try.underlying39 Try.underlying46 (by kernel_rfl) rfl rfl rfl rfl (by kernel_rfl) (by kernel_rfl) (by kernel_rfl) (by kernel_rfl) (by kernel_rfl) Try.underlying5 Try.underlying3 Try.underlying3 rfl
  subst hl1
  exact bitswrites_walk w a1 c1 l1 hm1 hk1

theorem shut (H : Type) (ds : List (DataW H)) (h : ds.length = Try.f9.params.size) : Rows.bitsWritesSpec.fn H ds = { results := [.lit (.bool true)], args := ds } := by
  rw [Try.params9] at h
  have h' : ds.length = 1 := h
  rcases ds with _ | ⟨d0, _ | ⟨d1, r⟩⟩ <;> simp at h' <;> rfl
set_option maxRecDepth 100000 in
theorem lifted (os : Os) (started : os.Started) (H : Type) (enc : TypeId × Value → H) :
    ReturnsInHanded {} Try.checked os 9 .any (Rows.bitsWritesSpec.pre6 enc Try.prog Try.f9 Rows.bitsWritesRow.domain false) (Rows.bitsWritesSpec.post enc Try.prog Try.f9 false true false false) := by
  refine law_lifted (tb := 4) Try.func9 (by kernel_rfl) shut rfl (by kernel_rfl) (by kernel_rfl) Try.underlying4 (by kernel_rfl) os started H enc
    (ChangeSpec.witness6 (enc := enc) (C := Try.checked) false ⟨#[], #[.slice none 0 0], []⟩ 8 (by kernel_rfl) (by kernel_rfl) (by kernel_rfl) (by kernel_rfl)) ?_
  intro W args ds ps g
  rw [Try.params9] at g
  obtain ⟨v0, vs0, d0, ds0, p0, q0, e0, o0, g0_⟩ := Given.one_ g
  have gn := Given.nil_ g0_
  subst gn
  obtain rfl : args = #[v0] := by cases args; simp_all
  exact walk W v0 d0 p0 o0

theorem over : Rows.bitsWritesRow.holds Try.pinned (OpenSpec.ofChange Rows.bitsWritesSpec) :=
  OpenClaim.holds_of_wide 9 Try.f9 rfl rfl rfl rfl rfl rfl rfl ⟨rfl, rfl, rfl, rfl, rfl⟩ rfl rfl rfl rfl rfl (by kernel_rfl) Try.func9 (by kernel_rfl)
    (of_decide_eq_true (by kernel_rfl)) (by unfold Func.isWrapper; first | (rw [if_pos (by decide +kernel)]; kernel_rfl) | (rw [if_neg (by decide +kernel)]; exact ⟨rfl, rfl⟩))
    (fun os started H enc _ => lifted os started H enc)
theorem proved : Rows.BitsWritesSaid := over
end Go.Proofs.Ytfgifimmdkiejaa.bitsWrites
