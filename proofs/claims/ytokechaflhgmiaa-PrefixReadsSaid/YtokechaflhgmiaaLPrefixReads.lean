/- The law PrefixReads returns true for any lengths and any bytes: the code of the lengths reads the bytes, symbol by symbol, as the document's own code does, to the first refusal. Condition: none. -/
import Derived.Test.YtokechaflhgmiaaWPReads
import Derived.Test.YtokechaflhgmiaaArgs
set_option linter.unusedVariables false
namespace Go.Proofs.Ytokechaflhgmiaa.prefixReads
open Go.ChangeShapes Go.WideShapes Go.ChangeAt Go.RowKit

theorem walk (w : World) (a0 : Option Addr) (n0 c0 : Nat) (l0 : List Int) (hl0 : l0.length = n0) (hc0 : n0 ≤ c0) (hm0 : c0 * 8 ≤ 140737488351232) (hk0 : ∀ k, (none : Option Nat) = some k → c0 ≤ k) (hA0 : a0 = none → c0 = 0) (hb0 : Ints .i64 w w.heap.size a0 l0) (a1 : Bool) (a2 : Option Addr) (n2 c2 : Nat) (l2 : List Int) (hl2 : l2.length = n2) (hc2 : n2 ≤ c2) (hm2 : c2 ≤ 140737488351232) (hA2 : a2 = none → c2 = 0) (hk2 : ∀ k, (none : Option Nat) = some k → c2 ≤ k) (hb2 : Bs w w.heap.size a2 l2) :
    Calls Try.prog 4 #[.slice a0 n0 c0, .bool a1, .slice a2 n2 c2] w fun e w' => e = .returned (.bool true) ∧ Below w.heap.size w w' := by
  exact prefixreads_walk w a0 n0 c0 l0 hl0 hc0 hm0 hA0 hb0 a1 a2 n2 c2 l2 hl2 hc2 hm2 hA2 hb2

theorem shut (H : Type) (ds : List (DataW H)) (h : ds.length = Try.f4.params.size) : Rows.prefixReadsSpec.fn H ds = { results := [.lit (.bool true)], args := ds } := by
  rw [Try.params4] at h
  have h' : ds.length = 3 := h
  rcases ds with _ | ⟨d0, _ | ⟨d1, _ | ⟨d2, _ | ⟨d3, r⟩⟩⟩⟩ <;> simp at h' <;> rfl
set_option maxRecDepth 100000 in
theorem lifted (os : Os) (started : os.Started) (H : Type) (enc : TypeId × Value → H) :
    ReturnsInHanded {} Try.checked os 4 .any (Rows.prefixReadsSpec.pre6 enc Try.prog Try.f4 Rows.prefixReadsRow.domain false) (Rows.prefixReadsSpec.post enc Try.prog Try.f4 false true false false) := by
  refine law_lifted (tb := 4) Try.func4 (by kernel_rfl) shut rfl (by kernel_rfl) (by kernel_rfl) Try.underlying4 (by kernel_rfl) os started H enc
    (ChangeSpec.witness6 (enc := enc) (C := Try.checked) false ⟨#[], #[.slice none 0 0, .bool false, .slice none 0 0], []⟩ 8 (by kernel_rfl) (by kernel_rfl) (by kernel_rfl) (by kernel_rfl)) ?_
  intro W args ds ps g
  rw [Try.params4] at g
  obtain ⟨v0, vs0, dd0, ds0, p0, q0, e0, o0, g0_⟩ := Given.one_ g
  obtain ⟨a0, n0, c0, l0, f0, hl0, hc0, hm0, hk0, hA0, hb0⟩ := One.ints o0 Try.underlying22 Try.underlying3 (by kernel_rfl) (eb := 8) (by kernel_rfl)
  subst f0
  obtain ⟨a1, vs1, ds1, q1, e1, g1_⟩ := Given.bool_ g0_ Try.underlying4
  obtain ⟨a2, n2, c2, l2, vs2, ds2, q2, e2, hl2, hc2, hm2, hA2, hk2, hb2, g2_⟩ := Given.bytes_ g1_ Try.underlying38 Try.underlying5 (by kernel_rfl) (by kernel_rfl)
  have gn := Given.nil_ g2_
  subst gn
  subst e2
  subst e1
  obtain rfl : args = #[.slice a0 n0 c0, .bool a1, .slice a2 n2 c2] := by cases args; simp_all
  exact walk W a0 n0 c0 l0 hl0 hc0 hm0 hk0 hA0 hb0 a1 a2 n2 c2 l2 hl2 hc2 hm2 hA2 hk2 hb2

theorem over : Rows.prefixReadsRow.holds Try.pinned (OpenSpec.ofChange Rows.prefixReadsSpec) :=
  OpenClaim.holds_of_wide 4 Try.f4 rfl rfl rfl rfl rfl rfl rfl ⟨rfl, rfl, rfl, rfl, rfl⟩ rfl rfl rfl rfl rfl (by kernel_rfl) Try.func4 (by kernel_rfl)
    (of_decide_eq_true (by kernel_rfl)) (by unfold Func.isWrapper; first | (rw [if_pos (by decide +kernel)]; kernel_rfl) | (rw [if_neg (by decide +kernel)]; exact ⟨rfl, rfl⟩))
    (fun os started H enc _ => lifted os started H enc)
theorem proved : Rows.PrefixReadsSaid := over
end Go.Proofs.Ytokechaflhgmiaa.prefixReads
