/- The law OctetBack returns true for any bytes ahead and behind, any number and any count: a number that is put behind any bytes is read there, its lowest bytes. Condition: the arguments hold together at most 1048576 values. -/
import Derived.Test.YtkkgfphfilbcdaaWBack
import Derived.Test.YtkkgfphfilbcdaaFrame
set_option linter.unusedVariables false
namespace Go.Proofs.Ytkkgfphfilbcdaa.octetBack
open Go.ChangeShapes Go.WideShapes Go.ChangeAt Go.RowKit

theorem walk (w : World) (a0 : Option Addr) (n0 c0 : Nat) (l0 : List Int) (hl0 : l0.length = n0) (hc0 : n0 ≤ c0) (hm0 : c0 ≤ 140737488351232) (hA0 : a0 = none → c0 = 0) (hk0 : ∀ k, (some 1048576 : Option Nat) = some k → c0 ≤ k) (hb0 : Bs w w.heap.size a0 l0) (a1 : Int) (w1 : (Lit.int .i64 a1).wf = true) (a2 : Int) (w2 : (Lit.int .u8 a2).wf = true) (a3 : Option Addr) (n3 c3 : Nat) (l3 : List Int) (hl3 : l3.length = n3) (hc3 : n3 ≤ c3) (hm3 : c3 ≤ 140737488351232) (hA3 : a3 = none → c3 = 0) (hk3 : ∀ k, (some 1048576 : Option Nat) = some k → c3 ≤ k) (hb3 : Bs w w.heap.size a3 l3) :
    Calls Try.prog 12 #[.slice a0 n0 c0, .int .i64 a1, .int .u8 a2, .slice a3 n3 c3] w fun e w' => e = .returned (.bool true) ∧ Below w.heap.size w w' := by
  exact back_walk w a0 n0 c0 l0 hl0 hc0 hA0 (hk0 _ rfl) hb0 a1 w1 a2 w2 a3 n3 c3 l3 hl3 hc3 hA3 (hk3 _ rfl) hb3

theorem shut (H : Type) (ds : List (DataW H)) (h : ds.length = Try.f12.params.size) : Rows.octetBackSpec.fn H ds = { results := [.lit (.bool true)], args := ds } := by
  rw [Try.params12] at h
  have h' : ds.length = 4 := h
  rcases ds with _ | ⟨d0, _ | ⟨d1, _ | ⟨d2, _ | ⟨d3, _ | ⟨d4, r⟩⟩⟩⟩⟩ <;> simp at h' <;> rfl
set_option maxRecDepth 100000 in
theorem lifted (os : Os) (started : os.Started) (H : Type) (enc : TypeId × Value → H) (F : Stop.Interp) :
    ReturnsInHanded {} Try.checked os 12 .any ((Rows.OpenSpec.upto Rows.octetBackSpec).pre6 enc Try.prog Try.f12 Rows.octetBackUptoRow.domain false) (((Rows.OpenSpec.upto Rows.octetBackSpec).at F).post enc Try.prog Try.f12 false true false false) := by
  refine law_lifted_upto (s := Rows.octetBackSpec) (tb := 4) Try.func12 (by kernel_rfl) shut rfl (by kernel_rfl) (by kernel_rfl) Try.underlying4 (by kernel_rfl) os started H enc F
    (OpenSpec.witness (enc := enc) (C := Try.checked) (s := Rows.OpenSpec.upto Rows.octetBackSpec) (k := Rows.uptoSmall) rfl false ⟨#[], #[.slice none 0 0, .int .i64 0, .int .u8 0, .slice none 0 0], []⟩ 8 (by kernel_rfl) (by kernel_rfl) (by kernel_rfl)
      (x := ([.nil, .lit (.int .i64 0), .lit (.int .u8 0), .nil], [], [])) (by kernel_rfl) rfl (by kernel_rfl)) ?_
  intro W args ds ps g
  rw [Try.params12] at g
  obtain ⟨a0, n0, c0, l0, vs0, ds0, q0, e0, hl0, hc0, hm0, hA0, hk0, hb0, g0⟩ := Given.bytes_ g Try.underlying37 Try.underlying5 (by kernel_rfl) (by kernel_rfl)
  obtain ⟨a1, vs1, ds1, q1, e1, w1, g1⟩ := Given.int_ g0 Try.underlying2
  obtain ⟨a2, vs2, ds2, q2, e2, w2, g2⟩ := Given.int_ g1 Try.underlying5
  obtain ⟨a3, n3, c3, l3, vs3, ds3, q3, e3, hl3, hc3, hm3, hA3, hk3, hb3, g3⟩ := Given.bytes_ g2 Try.underlying37 Try.underlying5 (by kernel_rfl) (by kernel_rfl)
  have gn := Given.nil_ g3
  subst gn
  subst e3
  subst e2
  subst e1
  obtain rfl : args = #[.slice a0 n0 c0, .int .i64 a1, .int .u8 a2, .slice a3 n3 c3] := by cases args; simp_all
  exact walk W a0 n0 c0 l0 hl0 hc0 hm0 hA0 hk0 hb0 a1 w1 a2 w2 a3 n3 c3 l3 hl3 hc3 hm3 hA3 hk3 hb3

theorem over : Rows.octetBackUptoRow.holds Try.pinned (Rows.OpenSpec.upto Rows.octetBackSpec) :=
  OpenClaim.holds_of_cond 12 Try.f12 rfl rfl rfl rfl rfl rfl rfl ⟨rfl, rfl, rfl, rfl, rfl⟩ rfl rfl rfl rfl rfl (by kernel_rfl) Try.func12 (by kernel_rfl)
    (of_decide_eq_true (by kernel_rfl)) (by unfold Func.isWrapper; first | (rw [if_pos (by decide +kernel)]; kernel_rfl) | (rw [if_neg (by decide +kernel)]; exact ⟨rfl, rfl⟩))
    (fun os started H enc _ F => lifted os started H enc F)
theorem proved : Rows.OctetBackUptoSaid := over
end Go.Proofs.Ytkkgfphfilbcdaa.octetBack
