/- The law BitsBack returns true for any widths and numbers: numbers that are put are taken again in the same widths, and bit by bit they are the same bits. Condition: none. -/
import Derived.Test.YtfgifimmdkiejaaWBBack
import Derived.Test.YtfgifimmdkiejaaArgs
set_option linter.unusedVariables false
namespace Go.Proofs.Ytfgifimmdkiejaa.bitsBack
open Go.ChangeShapes Go.WideShapes Go.ChangeAt Go.RowKit

theorem walk (w : World) (a0 : Option Addr) (n0 c0 : Nat) (l0 : List Int) (hl0 : l0.length = n0) (hc0 : n0 ≤ c0) (hm0 : c0 ≤ 140737488351232) (hA0 : a0 = none → c0 = 0) (hk0 : ∀ k, (none : Option Nat) = some k → c0 ≤ k) (hb0 : Bs w w.heap.size a0 l0) (a1 : Option Addr) (n1 c1 : Nat) (l1 : List Int) (hl1 : l1.length = n1) (hc1 : n1 ≤ c1) (hm1 : c1 * 8 ≤ 140737488351232) (hk1 : ∀ k, (none : Option Nat) = some k → c1 ≤ k) (hb1 : Ints .i64 w w.heap.size a1 l1) :
    Calls Try.prog 10 #[.slice a0 n0 c0, .slice a1 n1 c1] w fun e w' => e = .returned (.bool true) ∧ Below w.heap.size w w' := by
  exact bitsback_walk w a0 n0 c0 l0 hl0 hc0 hm0 hb0 a1 n1 c1 l1 hl1 hc1 hm1 hb1

theorem shut (H : Type) (ds : List (DataW H)) (h : ds.length = Try.f10.params.size) : Rows.bitsBackSpec.fn H ds = { results := [.lit (.bool true)], args := ds } := by
  rw [Try.params10] at h
  have h' : ds.length = 2 := h
  rcases ds with _ | ⟨d0, _ | ⟨d1, _ | ⟨d2, r⟩⟩⟩ <;> simp at h' <;> rfl
set_option maxRecDepth 100000 in
theorem lifted (os : Os) (started : os.Started) (H : Type) (enc : TypeId × Value → H) :
    ReturnsInHanded {} Try.checked os 10 .any (Rows.bitsBackSpec.pre6 enc Try.prog Try.f10 Rows.bitsBackRow.domain false) (Rows.bitsBackSpec.post enc Try.prog Try.f10 false true false false) := by
  refine law_lifted (tb := 4) Try.func10 (by kernel_rfl) shut rfl (by kernel_rfl) (by kernel_rfl) Try.underlying4 (by kernel_rfl) os started H enc
    (ChangeSpec.witness6 (enc := enc) (C := Try.checked) false ⟨#[], #[.slice none 0 0, .slice none 0 0], []⟩ 8 (by kernel_rfl) (by kernel_rfl) (by kernel_rfl) (by kernel_rfl)) ?_
  intro W args ds ps g
  rw [Try.params10] at g
  obtain ⟨a0, n0, c0, l0, vs0, ds0, q0, e0, hl0, hc0, hm0, hA0, hk0, hb0, g0_⟩ := Given.bytes_ g Try.underlying22 Try.underlying5 (by kernel_rfl) (by kernel_rfl)
  obtain ⟨v1, vs1, dd1, ds1, p1, q1, e1, o1, g1_⟩ := Given.one_ g0_
  obtain ⟨a1, n1, c1, l1, f1, hl1, hc1, hm1, hk1, hb1⟩ := One.ints o1 Try.underlying66 Try.underlying3 (by kernel_rfl) (eb := 8) (by kernel_rfl)
  subst f1
  have gn := Given.nil_ g1_
  subst gn
  subst e1
  obtain rfl : args = #[.slice a0 n0 c0, .slice a1 n1 c1] := by cases args; simp_all
  exact walk W a0 n0 c0 l0 hl0 hc0 hm0 hA0 hk0 hb0 a1 n1 c1 l1 hl1 hc1 hm1 hk1 hb1

theorem over : Rows.bitsBackRow.holds Try.pinned (OpenSpec.ofChange Rows.bitsBackSpec) :=
  OpenClaim.holds_of_wide 10 Try.f10 rfl rfl rfl rfl rfl rfl rfl ⟨rfl, rfl, rfl, rfl, rfl⟩ rfl rfl rfl rfl rfl (by kernel_rfl) Try.func10 (by kernel_rfl)
    (of_decide_eq_true (by kernel_rfl)) (by unfold Func.isWrapper; first | (rw [if_pos (by decide +kernel)]; kernel_rfl) | (rw [if_neg (by decide +kernel)]; exact ⟨rfl, rfl⟩))
    (fun os started H enc _ => lifted os started H enc)
theorem proved : Rows.BitsBackSaid := over
end Go.Proofs.Ytfgifimmdkiejaa.bitsBack
