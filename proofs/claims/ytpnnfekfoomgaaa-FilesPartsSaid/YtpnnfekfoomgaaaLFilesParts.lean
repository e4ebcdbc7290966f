/- The law FilesParts returns true for any name, bytes and cuts: a file that is read in pieces is the file as it was put last, and what was handed in or answered may be written over. Condition: none. -/
import Derived.Test.YtpnnfekfoomgaaaWFParts
import Derived.Test.YtpnnfekfoomgaaaArgs
set_option linter.unusedVariables false
set_option maxRecDepth 100000
namespace Go.Proofs.Ytpnnfekfoomgaaa.filesParts
open Go.ChangeShapes Go.WideShapes Go.ChangeAt Go.RowKit

theorem walk {H : Type} {enc : TypeId × Value → H} (w : World) (v0 : Value) (d0 : DataW H) (p0 : List MemPlace) (g0 : One H enc (none : Option Nat) w 9 v0 d0 p0) (a1 : Option Addr) (n1 c1 : Nat) (l1 : List Int) (hl1 : l1.length = n1) (hc1 : n1 ≤ c1) (hm1 : c1 ≤ 140737488351232) (hA1 : a1 = none → c1 = 0) (hk1 : ∀ k, (none : Option Nat) = some k → c1 ≤ k) (hb1 : Bs w w.heap.size a1 l1) (a2 : Option Addr) (n2 c2 : Nat) (l2 : List Int) (hl2 : l2.length = n2) (hc2 : n2 ≤ c2) (hm2 : c2 ≤ 140737488351232) (hA2 : a2 = none → c2 = 0) (hk2 : ∀ k, (none : Option Nat) = some k → c2 ≤ k) (hb2 : Bs w w.heap.size a2 l2) (a3 : Option Addr) (n3 c3 : Nat) (l3 : List Int) (hl3 : l3.length = n3) (hc3 : n3 ≤ c3) (hm3 : c3 * 2 ≤ 140737488351232) (hk3 : ∀ k, (none : Option Nat) = some k → c3 ≤ k) (hA3 : a3 = none → c3 = 0) (hb3 : Ints .u16 w w.heap.size a3 l3) :
    Calls Try.prog 3 #[v0, .slice a1 n1 c1, .slice a2 n2 c2, .slice a3 n3 c3] w fun e w' => e = .returned (.bool true) ∧ Below w.heap.size w w' := by
  obtain ⟨base0, hv0⟩ := g0.size
  obtain ⟨fuel0, hf0⟩ := g0.read
  obtain ⟨s, rfl, rfl, rfl, hs0⟩ := Go.ChangeMaps.open_string Try.underlying9 hv0 ⟨fuel0, hf0⟩
  exact filesparts_walk w s (by simpa only [maxLen] using hs0) a1 n1 c1 l1 hl1 hA1 hc1 hm1 hb1 a2 n2 c2 l2 hl2 hA2 hc2 hm2 hb2 a3 n3 c3 l3 hl3 hb3

theorem shut (H : Type) (ds : List (DataW H)) (h : ds.length = Try.f3.params.size) : Rows.filesPartsSpec.fn H ds = { results := [.lit (.bool true)], args := ds } := by
  rw [Try.params3] at h
  have h' : ds.length = 4 := h
  rcases ds with _ | ⟨d0, _ | ⟨d1, _ | ⟨d2, _ | ⟨d3, _ | ⟨d4, r⟩⟩⟩⟩⟩ <;> simp at h' <;> rfl
set_option maxRecDepth 100000 in
theorem lifted (os : Os) (started : os.Started) (H : Type) (enc : TypeId × Value → H) :
    ReturnsInHanded {} Try.checked os 3 .any (Rows.filesPartsSpec.pre6 enc Try.prog Try.f3 Rows.filesPartsRow.domain false) (Rows.filesPartsSpec.post enc Try.prog Try.f3 false true false false) := by
  refine law_lifted (tb := 4) Try.func3 (by kernel_rfl) shut rfl (by kernel_rfl) (by kernel_rfl) Try.underlying4 (by kernel_rfl) os started H enc
    (ChangeSpec.witness6 (enc := enc) (C := Try.checked) false ⟨#[], #[.string ⟨#[]⟩, .slice none 0 0, .slice none 0 0, .slice none 0 0], []⟩ 8 (by kernel_rfl) (by kernel_rfl) (by kernel_rfl) (by kernel_rfl)) ?_
  intro W args ds ps g
  rw [Try.params3] at g
  obtain ⟨v0, vs0, d0, ds0, p0, q0, e0, o0, g0_⟩ := Given.one_ g
  obtain ⟨a1, n1, c1, l1, vs1, ds1, q1, e1, hl1, hc1, hm1, hA1, hk1, hb1, g1_⟩ := Given.bytes_ g0_ Try.underlying22 Try.underlying5 (by kernel_rfl) (by kernel_rfl)
  obtain ⟨a2, n2, c2, l2, vs2, ds2, q2, e2, hl2, hc2, hm2, hA2, hk2, hb2, g2_⟩ := Given.bytes_ g1_ Try.underlying22 Try.underlying5 (by kernel_rfl) (by kernel_rfl)
  obtain ⟨v3, vs3, dd3, ds3, p3, q3, e3, o3, g3_⟩ := Given.one_ g2_
  obtain ⟨a3, n3, c3, l3, f3, hl3, hc3, hm3, hk3, hA3, hb3⟩ := One.ints o3 Try.underlying23 Try.underlying30 (by kernel_rfl) (eb := 2) (by kernel_rfl)
  subst f3
  have gn := Given.nil_ g3_
  subst gn
  subst e3
  subst e2
  subst e1
  obtain rfl : args = #[v0, .slice a1 n1 c1, .slice a2 n2 c2, .slice a3 n3 c3] := by cases args; simp_all
  exact walk W v0 d0 p0 o0 a1 n1 c1 l1 hl1 hc1 hm1 hA1 hk1 hb1 a2 n2 c2 l2 hl2 hc2 hm2 hA2 hk2 hb2 a3 n3 c3 l3 hl3 hc3 hm3 hk3 hA3 hb3

theorem over : Rows.filesPartsRow.holds Try.pinned (OpenSpec.ofChange Rows.filesPartsSpec) :=
  OpenClaim.holds_of_wide 3 Try.f3 rfl rfl rfl rfl rfl rfl rfl ⟨rfl, rfl, rfl, rfl, rfl⟩ rfl rfl rfl rfl rfl (by kernel_rfl) Try.func3 (by kernel_rfl)
    (of_decide_eq_true (by kernel_rfl)) (by unfold Func.isWrapper; first | (rw [if_pos (by decide +kernel)]; kernel_rfl) | (rw [if_neg (by decide +kernel)]; exact ⟨rfl, rfl⟩))
    (fun os started H enc _ => lifted os started H enc)
theorem proved : Rows.FilesPartsSaid := over
end Go.Proofs.Ytpnnfekfoomgaaa.filesParts
