/- The law FilesFails returns true for any numbers: of many reads just those fail that were told to, however many there are, and the others answer as ever. Condition: none. -/
import Derived.Test.YtpnnfekfoomgaaaWFFails
import Derived.Test.YtpnnfekfoomgaaaArgs
set_option linter.unusedVariables false
set_option maxRecDepth 100000
namespace Go.Proofs.Ytpnnfekfoomgaaa.filesFails
open Go.ChangeShapes Go.WideShapes Go.ChangeAt Go.RowKit

theorem walk (w : World) (a0 : Option Addr) (n0 c0 : Nat) (l0 : List Int) (hl0 : l0.length = n0) (hc0 : n0 ≤ c0) (hm0 : c0 ≤ 140737488351232) (hA0 : a0 = none → c0 = 0) (hk0 : ∀ k, (none : Option Nat) = some k → c0 ≤ k) (hb0 : Bs w w.heap.size a0 l0) (a1 : Int) (w1 : (Lit.int .u8 a1).wf = true) :
    Calls Try.prog 4 #[.slice a0 n0 c0, .int .u8 a1] w fun e w' => e = .returned (.bool true) ∧ Below w.heap.size w w' := by
  obtain ⟨k1, hk1, rfl⟩ : ∃ k : Nat, k ≤ 255 ∧ a1 = k := by have h := bd_u8 w1; exact ⟨a1.toNat, by omega, by omega⟩
  exact filesfails_walk w a0 n0 c0 l0 hl0 hb0 k1 hk1

theorem shut (H : Type) (ds : List (DataW H)) (h : ds.length = Try.f4.params.size) : Rows.filesFailsSpec.fn H ds = { results := [.lit (.bool true)], args := ds } := by
  rw [Try.params4] at h
  have h' : ds.length = 2 := h
  rcases ds with _ | ⟨d0, _ | ⟨d1, _ | ⟨d2, r⟩⟩⟩ <;> simp at h' <;> rfl
set_option maxRecDepth 100000 in
theorem lifted (os : Os) (started : os.Started) (H : Type) (enc : TypeId × Value → H) :
    ReturnsInHanded {} Try.checked os 4 .any (Rows.filesFailsSpec.pre6 enc Try.prog Try.f4 Rows.filesFailsRow.domain false) (Rows.filesFailsSpec.post enc Try.prog Try.f4 false true false false) := by
  refine law_lifted (tb := 4) Try.func4 (by kernel_rfl) shut rfl (by kernel_rfl) (by kernel_rfl) Try.underlying4 (by kernel_rfl) os started H enc
    (ChangeSpec.witness6 (enc := enc) (C := Try.checked) false ⟨#[], #[.slice none 0 0, .int .u8 0], []⟩ 8 (by kernel_rfl) (by kernel_rfl) (by kernel_rfl) (by kernel_rfl)) ?_
  intro W args ds ps g
  rw [Try.params4] at g
  obtain ⟨a0, n0, c0, l0, vs0, ds0, q0, e0, hl0, hc0, hm0, hA0, hk0, hb0, g0_⟩ := Given.bytes_ g Try.underlying22 Try.underlying5 (by kernel_rfl) (by kernel_rfl)
  obtain ⟨a1, vs1, ds1, q1, e1, w1, g1_⟩ := Given.int_ g0_ Try.underlying5
  have gn := Given.nil_ g1_
  subst gn
  subst e1
  obtain rfl : args = #[.slice a0 n0 c0, .int .u8 a1] := by cases args; simp_all
  exact walk W a0 n0 c0 l0 hl0 hc0 hm0 hA0 hk0 hb0 a1 w1

theorem over : Rows.filesFailsRow.holds Try.pinned (OpenSpec.ofChange Rows.filesFailsSpec) :=
  OpenClaim.holds_of_wide 4 Try.f4 rfl rfl rfl rfl rfl rfl rfl ⟨rfl, rfl, rfl, rfl, rfl⟩ rfl rfl rfl rfl rfl (by kernel_rfl) Try.func4 (by kernel_rfl)
    (of_decide_eq_true (by kernel_rfl)) (by unfold Func.isWrapper; first | (rw [if_pos (by decide +kernel)]; kernel_rfl) | (rw [if_neg (by decide +kernel)]; exact ⟨rfl, rfl⟩))
    (fun os started H enc _ => lifted os started H enc)
theorem proved : Rows.FilesFailsSaid := over
end Go.Proofs.Ytpnnfekfoomgaaa.filesFails
