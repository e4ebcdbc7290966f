/- The law SumTurned returns true for any bytes and any four bytes laid into them anywhere: the sums are alike just if the bytes are. Condition: none. -/
import Derived.Test.YtfgifimmdkiejaaWTurn
import Derived.Test.YtfgifimmdkiejaaArgs
set_option linter.unusedVariables false
namespace Go.Proofs.Ytfgifimmdkiejaa.sumTurned
open Go.ChangeShapes Go.WideShapes Go.ChangeAt Go.RowKit

theorem walk (w : World) (a0 : Option Addr) (n0 c0 : Nat) (l0 : List Int) (hl0 : l0.length = n0) (hc0 : n0 ≤ c0) (hm0 : c0 ≤ 140737488351232) (hA0 : a0 = none → c0 = 0) (hk0 : ∀ k, (none : Option Nat) = some k → c0 ≤ k) (hb0 : Bs w w.heap.size a0 l0) (a1 : Int) (w1 : (Lit.int .u16 a1).wf = true) (l2 : List Int) (hl2 : l2.length = 4) (hw2 : ∀ x ∈ l2, (Lit.int .u8 x).wf = true) :
    Calls Try.prog 6 #[.slice a0 n0 c0, .int .u16 a1, .agg (l2.map (Value.int .u8)).toArray] w fun e w' => e = .returned (.bool true) ∧ Below w.heap.size w w' := by
  exact sumturned_walk w a0 n0 c0 l0 hl0 hc0 hm0 hA0 hb0 a1 (bd_u16 w1) l2 hl2 (fun x hx => bd_u8 (hw2 x hx))

theorem shut (H : Type) (ds : List (DataW H)) (h : ds.length = Try.f6.params.size) : Rows.sumTurnedSpec.fn H ds = { results := [.lit (.bool true)], args := ds } := by
  rw [Try.params6] at h
  have h' : ds.length = 3 := h
  rcases ds with _ | ⟨d0, _ | ⟨d1, _ | ⟨d2, _ | ⟨d3, r⟩⟩⟩⟩ <;> simp at h' <;> rfl
set_option maxRecDepth 100000 in
theorem lifted (os : Os) (started : os.Started) (H : Type) (enc : TypeId × Value → H) :
    ReturnsInHanded {} Try.checked os 6 .any (Rows.sumTurnedSpec.pre6 enc Try.prog Try.f6 Rows.sumTurnedRow.domain false) (Rows.sumTurnedSpec.post enc Try.prog Try.f6 false true false false) := by
  refine law_lifted (tb := 4) Try.func6 (by kernel_rfl) shut rfl (by kernel_rfl) (by kernel_rfl) Try.underlying4 (by kernel_rfl) os started H enc
    (ChangeSpec.witness6 (enc := enc) (C := Try.checked) false ⟨#[], #[.slice none 0 0, .int .u16 0, .agg #[.int .u8 0, .int .u8 0, .int .u8 0, .int .u8 0]], []⟩ 8 (by kernel_rfl) (by kernel_rfl) (by kernel_rfl) (by kernel_rfl)) ?_
  intro W args ds ps g
  rw [Try.params6] at g
  obtain ⟨a0, n0, c0, l0, vs0, ds0, q0, e0, hl0, hc0, hm0, hA0, hk0, hb0, g0_⟩ := Given.bytes_ g Try.underlying22 Try.underlying5 (by kernel_rfl) (by kernel_rfl)
  obtain ⟨a1, vs1, ds1, q1, e1, w1, g1_⟩ := Given.int_ g0_ Try.underlying32
  obtain ⟨v2, vs2, dd2, ds2, p2, q2, e2, o2, g2_⟩ := Given.one_ g1_
  obtain ⟨l2, f2, hl2, hw2⟩ := One.arr o2 Try.underlying35 Try.underlying5 (by kernel_rfl) (by kernel_rfl)
  subst f2
  have gn := Given.nil_ g2_
  subst gn
  subst e2
  subst e1
  obtain rfl : args = #[.slice a0 n0 c0, .int .u16 a1, .agg (l2.map (Value.int .u8)).toArray] := by cases args; simp_all
  exact walk W a0 n0 c0 l0 hl0 hc0 hm0 hA0 hk0 hb0 a1 w1 l2 hl2 hw2

theorem over : Rows.sumTurnedRow.holds Try.pinned (OpenSpec.ofChange Rows.sumTurnedSpec) :=
  OpenClaim.holds_of_wide 6 Try.f6 rfl rfl rfl rfl rfl rfl rfl ⟨rfl, rfl, rfl, rfl, rfl⟩ rfl rfl rfl rfl rfl (by kernel_rfl) Try.func6 (by kernel_rfl)
    (of_decide_eq_true (by kernel_rfl)) (by unfold Func.isWrapper; first | (rw [if_pos (by decide +kernel)]; kernel_rfl) | (rw [if_neg (by decide +kernel)]; exact ⟨rfl, rfl⟩))
    (fun os started H enc _ => lifted os started H enc)
theorem proved : Rows.SumTurnedSaid := over
end Go.Proofs.Ytfgifimmdkiejaa.sumTurned
