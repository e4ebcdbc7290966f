/- The law OctetReads returns true for any bytes and any row of asks: a reader of package octet answers as the document's own reader does, though the bytes are changed behind its making. Condition: none. -/
import Derived.Test.YtkkgfphfilbcdaaWReads2
import Derived.Test.YtkkgfphfilbcdaaFrameAsk
import Derived.Test.YtkkgfphfilbcdaaFrame
set_option linter.unusedVariables false
namespace Go.Proofs.Ytkkgfphfilbcdaa.octetReads
open Go.ChangeShapes Go.WideShapes Go.ChangeAt Go.RowKit

theorem walk (w : World) (a0 : Option Addr) (n0 c0 : Nat) (l0 : List Int) (hl0 : l0.length = n0) (hc0 : n0 ≤ c0) (hm0 : c0 ≤ 140737488351232) (hA0 : a0 = none → c0 = 0) (hb0 : Bs w w.heap.size a0 l0) (a1 : Option Addr) (n1 c1 : Nat) (l1 : List (Int × Int)) (hl1 : l1.length = n1) (hm1 : n1 ≤ 140737488351232) (hb1 : Asks w w.heap.size a1 l1) :
    Calls Try.prog 13 #[.slice a0 n0 c0, .slice a1 n1 c1] w fun e w' => e = .returned (.bool true) ∧ Below w.heap.size w w' := by
  subst hl1
  exact reads_walk w a0 n0 c0 l0 hl0 hc0 hm0 hA0 hb0 a1 c1 l1 hm1 hb1

theorem shut (H : Type) (ds : List (DataW H)) (h : ds.length = Try.f13.params.size) : Rows.octetReadsSpec.fn H ds = { results := [.lit (.bool true)], args := ds } := by
  rw [Try.params13] at h
  have h' : ds.length = 2 := h
  rcases ds with _ | ⟨d0, _ | ⟨d1, _ | ⟨d2, r⟩⟩⟩ <;> simp at h' <;> rfl
set_option maxRecDepth 100000 in
theorem lifted (os : Os) (started : os.Started) (H : Type) (enc : TypeId × Value → H) :
    ReturnsInHanded {} Try.checked os 13 .any (Rows.octetReadsSpec.pre6 enc Try.prog Try.f13 Rows.octetReadsRow.domain false) (Rows.octetReadsSpec.post enc Try.prog Try.f13 false true false false) := by
  refine law_lifted (tb := 4) Try.func13 (by kernel_rfl) shut rfl (by kernel_rfl) (by kernel_rfl) Try.underlying4 (by kernel_rfl) os started H enc
    (ChangeSpec.witness6 (enc := enc) (C := Try.checked) false ⟨#[], #[.slice none 0 0, .slice none 0 0], []⟩ 8 (by kernel_rfl) (by kernel_rfl) (by kernel_rfl) (by kernel_rfl)) ?_
  intro W args ds ps g
  rw [Try.params13] at g
  obtain ⟨a0, n0, c0, l0, vs0, ds0, q0, e0, hl0, hc0, hm0, hA0, hb0, g0⟩ := Given.bytes_ g Try.underlying37 Try.underlying5 (by kernel_rfl) (by kernel_rfl)
  obtain ⟨a1, n1, c1, l1, vs1, ds1, q1, e1, hl1, hm1, hb1, g1⟩ := Given.asks_ g0 Try.underlying45 Try.underlying52 (by kernel_rfl) rfl rfl (by kernel_rfl) (by kernel_rfl) (by kernel_rfl) Try.underlying5 Try.underlying3
  have gn := Given.nil_ g1
  subst gn
  subst e1
  obtain rfl : args = #[.slice a0 n0 c0, .slice a1 n1 c1] := by cases args; simp_all
  exact walk W a0 n0 c0 l0 hl0 hc0 hm0 hA0 hb0 a1 n1 c1 l1 hl1 hm1 hb1

theorem over : Rows.octetReadsRow.holds Try.pinned (OpenSpec.ofChange Rows.octetReadsSpec) :=
  OpenClaim.holds_of_wide 13 Try.f13 rfl rfl rfl rfl rfl rfl rfl ⟨rfl, rfl, rfl, rfl, rfl⟩ rfl rfl rfl rfl rfl (by kernel_rfl) Try.func13 (by kernel_rfl)
    (of_decide_eq_true (by kernel_rfl)) (by unfold Func.isWrapper; first | (rw [if_pos (by decide +kernel)]; kernel_rfl) | (rw [if_neg (by decide +kernel)]; exact ⟨rfl, rfl⟩))
    (fun os started H enc _ => lifted os started H enc)
theorem proved : Rows.OctetReadsSaid := over
end Go.Proofs.Ytkkgfphfilbcdaa.octetReads
