/- The law SumBytes returns true for any sum and any bytes: the sum of the bytes, and of the bytes behind the sum, is the document's. Condition: none. -/
import Derived.Test.YtfgifimmdkiejaaWSum1
import Derived.Test.YtfgifimmdkiejaaFrame
set_option linter.unusedVariables false
namespace Go.Proofs.Ytfgifimmdkiejaa.sumBytes
open Go.ChangeShapes Go.WideShapes Go.ChangeAt Go.RowKit

theorem walk (w : World) (a0 : Int) (w0 : (Lit.int .i64 a0).wf = true) (a1 : Option Addr) (n1 c1 : Nat) (l1 : List Int) (hl1 : l1.length = n1) (hc1 : n1 ≤ c1) (hm1 : c1 ≤ 140737488351232) (hA1 : a1 = none → c1 = 0) (hk1 : ∀ k, (none : Option Nat) = some k → c1 ≤ k) (hb1 : Bs w w.heap.size a1 l1) :
    Calls Try.prog 3 #[.int .i64 a0, .slice a1 n1 c1] w fun e w' => e = .returned (.bool true) ∧ Below w.heap.size w w' := by
  exact sumbytes_walk w a0 a1 n1 c1 l1 hl1 (by omega) hb1

theorem shut (H : Type) (ds : List (DataW H)) (h : ds.length = Try.f3.params.size) : Rows.sumBytesSpec.fn H ds = { results := [.lit (.bool true)], args := ds } := by
  rw [Try.params3] at h
  have h' : ds.length = 2 := h
  rcases ds with _ | ⟨d0, _ | ⟨d1, _ | ⟨d2, r⟩⟩⟩ <;> simp at h' <;> rfl
set_option maxRecDepth 100000 in
theorem lifted (os : Os) (started : os.Started) (H : Type) (enc : TypeId × Value → H) :
    ReturnsInHanded {} Try.checked os 3 .any (Rows.sumBytesSpec.pre6 enc Try.prog Try.f3 Rows.sumBytesRow.domain false) (Rows.sumBytesSpec.post enc Try.prog Try.f3 false true false false) := by
  refine law_lifted (tb := 4) Try.func3 (by kernel_rfl) shut rfl (by kernel_rfl) (by kernel_rfl) Try.underlying4 (by kernel_rfl) os started H enc
    (ChangeSpec.witness6 (enc := enc) (C := Try.checked) false ⟨#[], #[.int .i64 0, .slice none 0 0], []⟩ 8 (by kernel_rfl) (by kernel_rfl) (by kernel_rfl) (by kernel_rfl)) ?_
  intro W args ds ps g
  rw [Try.params3] at g
  obtain ⟨a0, vs0, ds0, q0, e0, w0, g0⟩ := Given.int_ g Try.underlying3
  obtain ⟨a1, n1, c1, l1, vs1, ds1, q1, e1, hl1, hc1, hm1, hA1, hk1, hb1, g1⟩ := Given.bytes_ g0 Try.underlying22 Try.underlying5 (by kernel_rfl) (by kernel_rfl)
  have gn := Given.nil_ g1
  subst gn
  subst e1
  obtain rfl : args = #[.int .i64 a0, .slice a1 n1 c1] := by cases args; simp_all
  exact walk W a0 w0 a1 n1 c1 l1 hl1 hc1 hm1 hA1 hk1 hb1

theorem over : Rows.sumBytesRow.holds Try.pinned (OpenSpec.ofChange Rows.sumBytesSpec) :=
  OpenClaim.holds_of_wide 3 Try.f3 rfl rfl rfl rfl rfl rfl rfl ⟨rfl, rfl, rfl, rfl, rfl⟩ rfl rfl rfl rfl rfl (by kernel_rfl) Try.func3 (by kernel_rfl)
    (of_decide_eq_true (by kernel_rfl)) (by unfold Func.isWrapper; first | (rw [if_pos (by decide +kernel)]; kernel_rfl) | (rw [if_neg (by decide +kernel)]; exact ⟨rfl, rfl⟩))
    (fun os started H enc _ => lifted os started H enc)
theorem proved : Rows.SumBytesSaid := over
end Go.Proofs.Ytfgifimmdkiejaa.sumBytes
