/- The law PrefixBack returns true for any lengths and any symbols: symbols whose words are put one behind the other, the highest bit of each first, are read again. Condition: none. -/
import Derived.Test.YtokechaflhgmiaaWPBack
import Derived.Test.YtokechaflhgmiaaArgs
set_option linter.unusedVariables false
namespace Go.Proofs.Ytokechaflhgmiaa.prefixBack
open Go.ChangeShapes Go.WideShapes Go.ChangeAt Go.RowKit

theorem walk (w : World) (a0 : Option Addr) (n0 c0 : Nat) (l0 : List Int) (hl0 : l0.length = n0) (hc0 : n0 ≤ c0) (hm0 : c0 * 8 ≤ 140737488351232) (hk0 : ∀ k, (none : Option Nat) = some k → c0 ≤ k) (hA0 : a0 = none → c0 = 0) (hb0 : Ints .i64 w w.heap.size a0 l0) (a1 : Option Addr) (n1 c1 : Nat) (l1 : List Int) (hl1 : l1.length = n1) (hc1 : n1 ≤ c1) (hm1 : c1 * 2 ≤ 140737488351232) (hk1 : ∀ k, (none : Option Nat) = some k → c1 ≤ k) (hA1 : a1 = none → c1 = 0) (hb1 : Ints .u16 w w.heap.size a1 l1) :
    Calls Try.prog 5 #[.slice a0 n0 c0, .slice a1 n1 c1] w fun e w' => e = .returned (.bool true) ∧ Below w.heap.size w w' := by
  exact prefixback_walk w a0 n0 c0 l0 hl0 hc0 hm0 hA0 hb0 a1 n1 c1 l1 hl1 hc1 hm1 hb1

theorem shut (H : Type) (ds : List (DataW H)) (h : ds.length = Try.f5.params.size) : Rows.prefixBackSpec.fn H ds = { results := [.lit (.bool true)], args := ds } := by
  rw [Try.params5] at h
  have h' : ds.length = 2 := h
  rcases ds with _ | ⟨d0, _ | ⟨d1, _ | ⟨d2, r⟩⟩⟩ <;> simp at h' <;> rfl
set_option maxRecDepth 100000 in
theorem lifted (os : Os) (started : os.Started) (H : Type) (enc : TypeId × Value → H) :
    ReturnsInHanded {} Try.checked os 5 .any (Rows.prefixBackSpec.pre6 enc Try.prog Try.f5 Rows.prefixBackRow.domain false) (Rows.prefixBackSpec.post enc Try.prog Try.f5 false true false false) := by
  refine law_lifted (tb := 4) Try.func5 (by kernel_rfl) shut rfl (by kernel_rfl) (by kernel_rfl) Try.underlying4 (by kernel_rfl) os started H enc
    (ChangeSpec.witness6 (enc := enc) (C := Try.checked) false ⟨#[], #[.slice none 0 0, .slice none 0 0], []⟩ 8 (by kernel_rfl) (by kernel_rfl) (by kernel_rfl) (by kernel_rfl)) ?_
  intro W args ds ps g
  rw [Try.params5] at g
  obtain ⟨v0, vs0, dd0, ds0, p0, q0, e0, o0, g0_⟩ := Given.one_ g
  obtain ⟨a0, n0, c0, l0, f0, hl0, hc0, hm0, hk0, hA0, hb0⟩ := One.ints o0 Try.underlying22 Try.underlying3 (by kernel_rfl) (eb := 8) (by kernel_rfl)
  subst f0
  obtain ⟨v1, vs1, dd1, ds1, p1, q1, e1, o1, g1_⟩ := Given.one_ g0_
  obtain ⟨a1, n1, c1, l1, f1, hl1, hc1, hm1, hk1, hA1, hb1⟩ := One.ints o1 Try.underlying49 Try.underlying53 (by kernel_rfl) (eb := 2) (by kernel_rfl)
  subst f1
  have gn := Given.nil_ g1_
  subst gn
  subst e1
  obtain rfl : args = #[.slice a0 n0 c0, .slice a1 n1 c1] := by cases args; simp_all
  exact walk W a0 n0 c0 l0 hl0 hc0 hm0 hk0 hA0 hb0 a1 n1 c1 l1 hl1 hc1 hm1 hk1 hA1 hb1

theorem over : Rows.prefixBackRow.holds Try.pinned (OpenSpec.ofChange Rows.prefixBackSpec) :=
  OpenClaim.holds_of_wide 5 Try.f5 rfl rfl rfl rfl rfl rfl rfl ⟨rfl, rfl, rfl, rfl, rfl⟩ rfl rfl rfl rfl rfl (by kernel_rfl) Try.func5 (by kernel_rfl)
    (of_decide_eq_true (by kernel_rfl)) (by unfold Func.isWrapper; first | (rw [if_pos (by decide +kernel)]; kernel_rfl) | (rw [if_neg (by decide +kernel)]; exact ⟨rfl, rfl⟩))
    (fun os started H enc _ => lifted os started H enc)
theorem proved : Rows.PrefixBackSaid := over
end Go.Proofs.Ytokechaflhgmiaa.prefixBack
