/- The law SumEnds returns true for any bytes: with their own sum behind they have one sum; a nil table tells nothing. Condition: none. -/
import Derived.Test.YtfgifimmdkiejaaWSum1
import Derived.Test.YtfgifimmdkiejaaFrame
set_option linter.unusedVariables false
namespace Go.Proofs.Ytfgifimmdkiejaa.sumEnds
open Go.ChangeShapes Go.WideShapes Go.ChangeAt Go.RowKit

theorem walk (w : World) (a0 : Option Addr) (n0 c0 : Nat) (l0 : List Int) (hl0 : l0.length = n0) (hc0 : n0 ≤ c0) (hm0 : c0 ≤ 140737488351232) (hA0 : a0 = none → c0 = 0) (hk0 : ∀ k, (none : Option Nat) = some k → c0 ≤ k) (hb0 : Bs w w.heap.size a0 l0) :
    Calls Try.prog 7 #[.slice a0 n0 c0] w fun e w' => e = .returned (.bool true) ∧ Below w.heap.size w w' := by
  exact sumends_walk w a0 n0 c0 l0 hl0 (by omega) hb0

theorem shut (H : Type) (ds : List (DataW H)) (h : ds.length = Try.f7.params.size) : Rows.sumEndsSpec.fn H ds = { results := [.lit (.bool true)], args := ds } := by
  rw [Try.params7] at h
  have h' : ds.length = 1 := h
  rcases ds with _ | ⟨d0, _ | ⟨d1, r⟩⟩ <;> simp at h' <;> rfl
set_option maxRecDepth 100000 in
theorem lifted (os : Os) (started : os.Started) (H : Type) (enc : TypeId × Value → H) :
    ReturnsInHanded {} Try.checked os 7 .any (Rows.sumEndsSpec.pre6 enc Try.prog Try.f7 Rows.sumEndsRow.domain false) (Rows.sumEndsSpec.post enc Try.prog Try.f7 false true false false) := by
  refine law_lifted (tb := 4) Try.func7 (by kernel_rfl) shut rfl (by kernel_rfl) (by kernel_rfl) Try.underlying4 (by kernel_rfl) os started H enc
    (ChangeSpec.witness6 (enc := enc) (C := Try.checked) false ⟨#[], #[.slice none 0 0], []⟩ 8 (by kernel_rfl) (by kernel_rfl) (by kernel_rfl) (by kernel_rfl)) ?_
  intro W args ds ps g
  rw [Try.params7] at g
  obtain ⟨a0, n0, c0, l0, vs0, ds0, q0, e0, hl0, hc0, hm0, hA0, hk0, hb0, g0⟩ := Given.bytes_ g Try.underlying22 Try.underlying5 (by kernel_rfl) (by kernel_rfl)
  have gn := Given.nil_ g0
  subst gn
  obtain rfl : args = #[.slice a0 n0 c0] := by cases args; simp_all
  exact walk W a0 n0 c0 l0 hl0 hc0 hm0 hA0 hk0 hb0

theorem over : Rows.sumEndsRow.holds Try.pinned (OpenSpec.ofChange Rows.sumEndsSpec) :=
  OpenClaim.holds_of_wide 7 Try.f7 rfl rfl rfl rfl rfl rfl rfl ⟨rfl, rfl, rfl, rfl, rfl⟩ rfl rfl rfl rfl rfl (by kernel_rfl) Try.func7 (by kernel_rfl)
    (of_decide_eq_true (by kernel_rfl)) (by unfold Func.isWrapper; first | (rw [if_pos (by decide +kernel)]; kernel_rfl) | (rw [if_neg (by decide +kernel)]; exact ⟨rfl, rfl⟩))
    (fun os started H enc _ => lifted os started H enc)
theorem proved : Rows.SumEndsSaid := over
end Go.Proofs.Ytfgifimmdkiejaa.sumEnds
