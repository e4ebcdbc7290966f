/- The law PrefixFree returns true for any lengths: no word of a code is the beginning of another one, and a code of two words or more has one for every row of bits. Condition: none. -/
import Derived.Test.YtokechaflhgmiaaWPFree
import Derived.Test.YtokechaflhgmiaaArgs
set_option linter.unusedVariables false
namespace Go.Proofs.Ytokechaflhgmiaa.prefixFree
open Go.ChangeShapes Go.WideShapes Go.ChangeAt Go.RowKit

theorem walk (w : World) (a0 : Option Addr) (n0 c0 : Nat) (l0 : List Int) (hl0 : l0.length = n0) (hc0 : n0 ≤ c0) (hm0 : c0 * 8 ≤ 140737488351232) (hk0 : ∀ k, (none : Option Nat) = some k → c0 ≤ k) (hA0 : a0 = none → c0 = 0) (hb0 : Ints .i64 w w.heap.size a0 l0) (a1 : Bool) :
    Calls Try.prog 6 #[.slice a0 n0 c0, .bool a1] w fun e w' => e = .returned (.bool true) ∧ Below w.heap.size w w' := by
  exact prefixfree_walk w a0 n0 c0 l0 hl0 hc0 hm0 hA0 hb0 a1

theorem shut (H : Type) (ds : List (DataW H)) (h : ds.length = Try.f6.params.size) : Rows.prefixFreeSpec.fn H ds = { results := [.lit (.bool true)], args := ds } := by
  rw [Try.params6] at h
  have h' : ds.length = 2 := h
  rcases ds with _ | ⟨d0, _ | ⟨d1, _ | ⟨d2, r⟩⟩⟩ <;> simp at h' <;> rfl
set_option maxRecDepth 100000 in
theorem lifted (os : Os) (started : os.Started) (H : Type) (enc : TypeId × Value → H) :
    ReturnsInHanded {} Try.checked os 6 .any (Rows.prefixFreeSpec.pre6 enc Try.prog Try.f6 Rows.prefixFreeRow.domain false) (Rows.prefixFreeSpec.post enc Try.prog Try.f6 false true false false) := by
  refine law_lifted (tb := 4) Try.func6 (by kernel_rfl) shut rfl (by kernel_rfl) (by kernel_rfl) Try.underlying4 (by kernel_rfl) os started H enc
    (ChangeSpec.witness6 (enc := enc) (C := Try.checked) false ⟨#[], #[.slice none 0 0, .bool false], []⟩ 8 (by kernel_rfl) (by kernel_rfl) (by kernel_rfl) (by kernel_rfl)) ?_
  intro W args ds ps g
  rw [Try.params6] at g
  obtain ⟨v0, vs0, dd0, ds0, p0, q0, e0, o0, g0_⟩ := Given.one_ g
  obtain ⟨a0, n0, c0, l0, f0, hl0, hc0, hm0, hk0, hA0, hb0⟩ := One.ints o0 Try.underlying22 Try.underlying3 (by kernel_rfl) (eb := 8) (by kernel_rfl)
  subst f0
  obtain ⟨a1, vs1, ds1, q1, e1, g1_⟩ := Given.bool_ g0_ Try.underlying4
  have gn := Given.nil_ g1_
  subst gn
  subst e1
  obtain rfl : args = #[.slice a0 n0 c0, .bool a1] := by cases args; simp_all
  exact walk W a0 n0 c0 l0 hl0 hc0 hm0 hk0 hA0 hb0 a1

theorem over : Rows.prefixFreeRow.holds Try.pinned (OpenSpec.ofChange Rows.prefixFreeSpec) :=
  OpenClaim.holds_of_wide 6 Try.f6 rfl rfl rfl rfl rfl rfl rfl ⟨rfl, rfl, rfl, rfl, rfl⟩ rfl rfl rfl rfl rfl (by kernel_rfl) Try.func6 (by kernel_rfl)
    (of_decide_eq_true (by kernel_rfl)) (by unfold Func.isWrapper; first | (rw [if_pos (by decide +kernel)]; kernel_rfl) | (rw [if_neg (by decide +kernel)]; exact ⟨rfl, rfl⟩))
    (fun os started H enc _ => lifted os started H enc)
theorem proved : Rows.PrefixFreeSaid := over
end Go.Proofs.Ytokechaflhgmiaa.prefixFree
