/- The law SumLinear returns true for any two texts: the exclusive or of their sums is that of their exclusive or and of as many noughts. Condition: none. -/
import Derived.Test.YtfgifimmdkiejaaWLin
import Derived.Test.YtfgifimmdkiejaaArgs
set_option linter.unusedVariables false
namespace Go.Proofs.Ytfgifimmdkiejaa.sumLinear
open Go.ChangeShapes Go.WideShapes Go.ChangeAt Go.RowKit

theorem walk (w : World) (a0 : Option Addr) (n0 c0 : Nat) (l0 : List Int) (hl0 : l0.length = n0) (hc0 : n0 ≤ c0) (hm0 : c0 ≤ 140737488351232) (hA0 : a0 = none → c0 = 0) (hk0 : ∀ k, (none : Option Nat) = some k → c0 ≤ k) (hb0 : Bs w w.heap.size a0 l0) (a1 : Option Addr) (n1 c1 : Nat) (l1 : List Int) (hl1 : l1.length = n1) (hc1 : n1 ≤ c1) (hm1 : c1 ≤ 140737488351232) (hA1 : a1 = none → c1 = 0) (hk1 : ∀ k, (none : Option Nat) = some k → c1 ≤ k) (hb1 : Bs w w.heap.size a1 l1) :
    Calls Try.prog 5 #[.slice a0 n0 c0, .slice a1 n1 c1] w fun e w' => e = .returned (.bool true) ∧ Below w.heap.size w w' := by
  exact sumlinear_walk w a0 n0 c0 l0 hl0 hc0 (by omega) hb0 a1 n1 c1 l1 hl1 hc1 (by omega) hb1

theorem shut (H : Type) (ds : List (DataW H)) (h : ds.length = Try.f5.params.size) : Rows.sumLinearSpec.fn H ds = { results := [.lit (.bool true)], args := ds } := by
  rw [Try.params5] at h
  have h' : ds.length = 2 := h
  rcases ds with _ | ⟨d0, _ | ⟨d1, _ | ⟨d2, r⟩⟩⟩ <;> simp at h' <;> rfl
set_option maxRecDepth 100000 in
theorem lifted (os : Os) (started : os.Started) (H : Type) (enc : TypeId × Value → H) :
    ReturnsInHanded {} Try.checked os 5 .any (Rows.sumLinearSpec.pre6 enc Try.prog Try.f5 Rows.sumLinearRow.domain false) (Rows.sumLinearSpec.post enc Try.prog Try.f5 false true false false) := by
  refine law_lifted (tb := 4) Try.func5 (by kernel_rfl) shut rfl (by kernel_rfl) (by kernel_rfl) Try.underlying4 (by kernel_rfl) os started H enc
    (ChangeSpec.witness6 (enc := enc) (C := Try.checked) false ⟨#[], #[.slice none 0 0, .slice none 0 0], []⟩ 8 (by kernel_rfl) (by kernel_rfl) (by kernel_rfl) (by kernel_rfl)) ?_
  intro W args ds ps g
  rw [Try.params5] at g
  obtain ⟨a0, n0, c0, l0, vs0, ds0, q0, e0, hl0, hc0, hm0, hA0, hk0, hb0, g0_⟩ := Given.bytes_ g Try.underlying22 Try.underlying5 (by kernel_rfl) (by kernel_rfl)
  obtain ⟨a1, n1, c1, l1, vs1, ds1, q1, e1, hl1, hc1, hm1, hA1, hk1, hb1, g1_⟩ := Given.bytes_ g0_ Try.underlying22 Try.underlying5 (by kernel_rfl) (by kernel_rfl)
  have gn := Given.nil_ g1_
  subst gn
  subst e1
  obtain rfl : args = #[.slice a0 n0 c0, .slice a1 n1 c1] := by cases args; simp_all
  exact walk W a0 n0 c0 l0 hl0 hc0 hm0 hA0 hk0 hb0 a1 n1 c1 l1 hl1 hc1 hm1 hA1 hk1 hb1

theorem over : Rows.sumLinearRow.holds Try.pinned (OpenSpec.ofChange Rows.sumLinearSpec) :=
  OpenClaim.holds_of_wide 5 Try.f5 rfl rfl rfl rfl rfl rfl rfl ⟨rfl, rfl, rfl, rfl, rfl⟩ rfl rfl rfl rfl rfl (by kernel_rfl) Try.func5 (by kernel_rfl)
    (of_decide_eq_true (by kernel_rfl)) (by unfold Func.isWrapper; first | (rw [if_pos (by decide +kernel)]; kernel_rfl) | (rw [if_neg (by decide +kernel)]; exact ⟨rfl, rfl⟩))
    (fun os started H enc _ => lifted os started H enc)
theorem proved : Rows.SumLinearSaid := over
end Go.Proofs.Ytfgifimmdkiejaa.sumLinear
