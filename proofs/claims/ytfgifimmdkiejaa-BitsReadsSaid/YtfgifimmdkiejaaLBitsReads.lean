/- The law BitsReads returns true for any bytes and any row of asks: a reader of package bits answers as the document's own reader does, though the bytes are changed behind its making. Condition: none. -/
import Derived.Test.YtfgifimmdkiejaaWBReads
import Derived.Test.YtfgifimmdkiejaaArgs
set_option linter.unusedVariables false
namespace Go.Proofs.Ytfgifimmdkiejaa.bitsReads
open Go.ChangeShapes Go.WideShapes Go.ChangeAt Go.RowKit

theorem walk {H : Type} {enc : TypeId × Value → H} (w : World) (a0 : Option Addr) (n0 c0 : Nat) (l0 : List Int) (hl0 : l0.length = n0) (hc0 : n0 ≤ c0) (hm0 : c0 ≤ 140737488351232) (hA0 : a0 = none → c0 = 0) (hk0 : ∀ k, (none : Option Nat) = some k → c0 ≤ k) (hb0 : Bs w w.heap.size a0 l0) (v1 : Value) (d1 : DataW H) (p1 : List MemPlace) (g1 : One H enc (none : Option Nat) w 39 v1 d1 p1) :
    Calls Try.prog 8 #[.slice a0 n0 c0, v1] w fun e w' => e = .returned (.bool true) ∧ Below w.heap.size w w' := by
  obtain ⟨a1, n1, c1, l1, rfl, hl1, hm1, hk1⟩ := One.asks g1 Try.underlying39 Try.underlying46 (by kernel_rfl) rfl rfl rfl rfl (by kernel_rfl) (by kernel_rfl) (by kernel_rfl) (by kernel_rfl) (by kernel_rfl) Try.underlying5 Try.underlying3 Try.underlying3 rfl
  subst hl1
  exact bitreads_walk w a0 n0 c0 l0 hl0 hc0 hm0 hA0 hb0 a1 c1 l1 hm1 hk1

theorem shut (H : Type) (ds : List (DataW H)) (h : ds.length = Try.f8.params.size) : Rows.bitsReadsSpec.fn H ds = { results := [.lit (.bool true)], args := ds } := by
  rw [Try.params8] at h
  have h' : ds.length = 2 := h
  rcases ds with _ | ⟨d0, _ | ⟨d1, _ | ⟨d2, r⟩⟩⟩ <;> simp at h' <;> rfl
set_option maxRecDepth 100000 in
theorem lifted (os : Os) (started : os.Started) (H : Type) (enc : TypeId × Value → H) :
    ReturnsInHanded {} Try.checked os 8 .any (Rows.bitsReadsSpec.pre6 enc Try.prog Try.f8 Rows.bitsReadsRow.domain false) (Rows.bitsReadsSpec.post enc Try.prog Try.f8 false true false false) := by
  refine law_lifted (tb := 4) Try.func8 (by kernel_rfl) shut rfl (by kernel_rfl) (by kernel_rfl) Try.underlying4 (by kernel_rfl) os started H enc
    (ChangeSpec.witness6 (enc := enc) (C := Try.checked) false ⟨#[], #[.slice none 0 0, .slice none 0 0], []⟩ 8 (by kernel_rfl) (by kernel_rfl) (by kernel_rfl) (by kernel_rfl)) ?_
  intro W args ds ps g
  rw [Try.params8] at g
  obtain ⟨a0, n0, c0, l0, vs0, ds0, q0, e0, hl0, hc0, hm0, hA0, hk0, hb0, g0_⟩ := Given.bytes_ g Try.underlying22 Try.underlying5 (by kernel_rfl) (by kernel_rfl)
  obtain ⟨v1, vs1, d1, ds1, p1, q1, e1, o1, g1_⟩ := Given.one_ g0_
  have gn := Given.nil_ g1_
  subst gn
  subst e1
  obtain rfl : args = #[.slice a0 n0 c0, v1] := by cases args; simp_all
  exact walk W a0 n0 c0 l0 hl0 hc0 hm0 hA0 hk0 hb0 v1 d1 p1 o1

theorem over : Rows.bitsReadsRow.holds Try.pinned (OpenSpec.ofChange Rows.bitsReadsSpec) :=
  OpenClaim.holds_of_wide 8 Try.f8 rfl rfl rfl rfl rfl rfl rfl ⟨rfl, rfl, rfl, rfl, rfl⟩ rfl rfl rfl rfl rfl (by kernel_rfl) Try.func8 (by kernel_rfl)
    (of_decide_eq_true (by kernel_rfl)) (by unfold Func.isWrapper; first | (rw [if_pos (by decide +kernel)]; kernel_rfl) | (rw [if_neg (by decide +kernel)]; exact ⟨rfl, rfl⟩))
    (fun os started H enc _ => lifted os started H enc)
theorem proved : Rows.BitsReadsSaid := over
end Go.Proofs.Ytfgifimmdkiejaa.bitsReads
