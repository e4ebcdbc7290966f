/- The law OctetNumbers returns true for any bytes, any place and any count: octet.Little and octet.Big answer what the document's own answers are, a number or an error. Condition: none. -/
import Derived.Test.YtkkgfphfilbcdaaOctFix
import Derived.Test.YtkkgfphfilbcdaaFrame
set_option linter.unusedVariables false
namespace Go.Proofs.Ytkkgfphfilbcdaa.octetNumbers
open Go.ChangeShapes Go.WideShapes Go.ChangeAt Go.RowKit

theorem walk (w : World) (a0 : Option Addr) (n0 c0 : Nat) (l0 : List Int) (hl0 : l0.length = n0) (hc0 : n0 ≤ c0) (hm0 : c0 ≤ 140737488351232) (hb0 : Bs w w.heap.size a0 l0) (a1 : Int) (w1 : (Lit.int .i64 a1).wf = true) (a2 : Int) (w2 : (Lit.int .i64 a2).wf = true) :
    Calls Try.prog 10 #[.slice a0 n0 c0, .int .i64 a1, .int .i64 a2] w fun e w' => e = .returned (.bool true) ∧ Below w.heap.size w w' := by
  have h1 := bd_i64 w1
  have h2 := bd_i64 w2
  subst hl0
  go_enter Try.func10, Try.ntmps10
  go_wp2_with fail
  refine (octFixed _).mono ?_; rintro e w1 ⟨rfl, hb1⟩
  have hbs := hb0.below hb1
  go_wp2_with fail
  refine (octLittle _ _ _ l0 rfl _ _ h1 h2 hc0 (by omega) _ _ hbs).mono ?_; rintro e w' ⟨rfl, rfl⟩
  go_wp2_with fail
  refine (refLittle _ _ l0 _ _ h1 h2 hc0 (by omega) _ (hbs.more hb1.size)).mono ?_; rintro e w2 ⟨rfl, hb2⟩
  have hbs2 := (hbs.more hb1.size).below hb2
  go_wp2_with fail
  refine (octBig _ _ _ l0 rfl _ _ h1 h2 hc0 (by omega) _ _ hbs2).mono ?_; rintro e w' ⟨rfl, rfl⟩
  go_wp2_with fail
  refine (refBig _ _ l0 _ _ h1 h2 hc0 (by omega) _ _ hbs2).mono ?_; rintro e w' ⟨rfl, rfl⟩
  go_wp2_with fail
  go_ret
  exact ⟨by simp, hb1.trans (hb2.mono hb1.size)⟩

theorem shut (H : Type) (ds : List (DataW H)) (h : ds.length = Try.f10.params.size) : Rows.octetNumbersSpec.fn H ds = { results := [.lit (.bool true)], args := ds } := by
  rw [Try.params10] at h
  have h' : ds.length = 3 := h
  rcases ds with _ | ⟨d0, _ | ⟨d1, _ | ⟨d2, _ | ⟨d3, r⟩⟩⟩⟩ <;> simp at h' <;> rfl
set_option maxRecDepth 100000 in
theorem lifted (os : Os) (started : os.Started) (H : Type) (enc : TypeId × Value → H) :
    ReturnsInHanded {} Try.checked os 10 .any (Rows.octetNumbersSpec.pre6 enc Try.prog Try.f10 Rows.octetNumbersRow.domain false) (Rows.octetNumbersSpec.post enc Try.prog Try.f10 false true false false) := by
  refine law_lifted (tb := 4) Try.func10 (by kernel_rfl) shut rfl (by kernel_rfl) (by kernel_rfl) Try.underlying4 (by kernel_rfl) os started H enc
    (ChangeSpec.witness6 (enc := enc) (C := Try.checked) false ⟨#[], #[.slice none 0 0, .int .i64 0, .int .i64 0], []⟩ 8 (by kernel_rfl) (by kernel_rfl) (by kernel_rfl) (by kernel_rfl)) ?_
  intro W args ds ps g
  rw [Try.params10] at g
  obtain ⟨a0, n0, c0, l0, vs0, ds0, q0, e0, hl0, hc0, hm0, hb0, g0⟩ := Given.bytes_ g Try.underlying37 Try.underlying5 (by kernel_rfl) (by kernel_rfl)
  obtain ⟨a1, vs1, ds1, q1, e1, w1, g1⟩ := Given.int_ g0 Try.underlying3
  obtain ⟨a2, vs2, ds2, q2, e2, w2, g2⟩ := Given.int_ g1 Try.underlying3
  have gn := Given.nil_ g2
  subst gn
  subst e2
  subst e1
  obtain rfl : args = #[.slice a0 n0 c0, .int .i64 a1, .int .i64 a2] := by cases args; simp_all
  exact walk W a0 n0 c0 l0 hl0 hc0 hm0 hb0 a1 w1 a2 w2

theorem over : Rows.octetNumbersRow.holds Try.pinned (OpenSpec.ofChange Rows.octetNumbersSpec) :=
  OpenClaim.holds_of_wide 10 Try.f10 rfl rfl rfl rfl rfl rfl rfl ⟨rfl, rfl, rfl, rfl, rfl⟩ rfl rfl rfl rfl rfl (by kernel_rfl) Try.func10 (by kernel_rfl)
    (of_decide_eq_true (by kernel_rfl)) (by unfold Func.isWrapper; first | (rw [if_pos (by decide +kernel)]; kernel_rfl) | (rw [if_neg (by decide +kernel)]; exact ⟨rfl, rfl⟩))
    (fun os started H enc _ => lifted os started H enc)
theorem proved : Rows.OctetNumbersSaid := over
end Go.Proofs.Ytkkgfphfilbcdaa.octetNumbers
