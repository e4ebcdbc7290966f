/- The law InflateBehind returns true for any bytes, any more of them and any cut: what stands behind the last block changes nothing, and what is cut off it is missed. Condition: the order of the lengths lies where the program's own text lays it (tied). -/
import Derived.Test.YtpnnfekfoomgaaaDoorWIBehind
import Derived.Test.YtpnnfekfoomgaaaDoorArgs
import Derived.Test.YtpnnfekfoomgaaaDoorTied
set_option linter.unusedVariables false
set_option maxRecDepth 100000
namespace Go.Proofs.YtpnnfekfoomgaaaDoor.inflateBehind
open Go.ChangeShapes Go.WideShapes Go.ChangeAt Go.RowKit

theorem walk (w : World) (a0 : Option Addr) (n0 c0 : Nat) (l0 : List Int) (hl0 : l0.length = n0) (hc0 : n0 ≤ c0) (hm0 : c0 ≤ 140737488351232) (hA0 : a0 = none → c0 = 0) (hk0 : ∀ k, (none : Option Nat) = some k → c0 ≤ k) (hb0 : Bs w w.heap.size a0 l0) (a1 : Option Addr) (n1 c1 : Nat) (l1 : List Int) (hl1 : l1.length = n1) (hc1 : n1 ≤ c1) (hm1 : c1 ≤ 140737488351232) (hA1 : a1 = none → c1 = 0) (hk1 : ∀ k, (none : Option Nat) = some k → c1 ≤ k) (hb1 : Bs w w.heap.size a1 l1) (a2 : Int) (w2 : (Lit.int .u16 a2).wf = true) (hord : Ord w) :
    Calls Tryd.prog 4 #[.slice a0 n0 c0, .slice a1 n1 c1, .int .u16 a2] w fun e w' => e = .returned (.bool true) ∧ Below w.heap.size w w' := by
  obtain ⟨k2, hk2, rfl⟩ : ∃ k : Nat, k ≤ 65535 ∧ a2 = k := by have h := bd_u16 w2; exact ⟨a2.toNat, by omega, by omega⟩
  exact inflatebehind_walk w a0 n0 c0 l0 hl0 hc0 hA0 (by omega) hb0 a1 n1 c1 l1 hl1 hc1 hA1 (by omega) hb1 k2 hk2 hord

theorem shut (H : Type) (ds : List (DataW H)) (h : ds.length = Tryd.f4.params.size) : Rows.inflateBehindSpec.fn H ds = { results := [.lit (.bool true)], args := ds } := by
  rw [Tryd.params4] at h
  have h' : ds.length = 3 := h
  rcases ds with _ | ⟨d0, _ | ⟨d1, _ | ⟨d2, _ | ⟨d3, r⟩⟩⟩⟩ <;> simp at h' <;> rfl
set_option maxRecDepth 100000 in
theorem lifted (os : Os) (started : os.Started) (H : Type) (enc : TypeId × Value → H) :
    ReturnsInHanded {} Tryd.checked os 4 .any (fun w args => (Rows.inflateBehindSpec.pre enc Tryd.prog Tryd.f4 [] false w args ∧ laidMetH Tryd.prog laidL w) ∧ sizedMet enc Tryd.prog Tryd.f4 (OpenSpec.ofChange Rows.inflateBehindSpec) false w args) (Rows.inflateBehindSpec.post enc Tryd.prog Tryd.f4 false true false false) := by
  refine law_tied (tb := 4) Tryd.func4 (by kernel_rfl) shut rfl (by kernel_rfl) (by kernel_rfl) Tryd.underlying4 (by kernel_rfl) os started H enc
    (ChangeSpec.witness_shaped (enc := enc) (C := Tryd.checked) (os := os) (X := fun w _ => laidMetH Tryd.prog laidL w) false (World.doorLaid Tryd.prog 14 os) #[.slice none 0 0, .slice none 0 0, .int .u16 0] 8 rfl (World.shaped_of_RefB (by kernel_rfl) (by kernel_rfl)) (by kernel_rfl) (by kernel_rfl) (by kernel_rfl) (door_met os _)) ?_
  intro W args ds ps g hord
  rw [Tryd.params4] at g
  obtain ⟨a0, n0, c0, l0, vs0, ds0, q0, e0, hl0, hc0, hm0, hA0, hk0, hb0, g0_⟩ := Given.bytes_ g Tryd.underlying22 Tryd.underlying5 (by kernel_rfl) (by kernel_rfl)
  obtain ⟨a1, n1, c1, l1, vs1, ds1, q1, e1, hl1, hc1, hm1, hA1, hk1, hb1, g1_⟩ := Given.bytes_ g0_ Tryd.underlying22 Tryd.underlying5 (by kernel_rfl) (by kernel_rfl)
  obtain ⟨a2, vs2, ds2, q2, e2, w2, g2_⟩ := Given.int_ g1_ Tryd.underlying29
  have gn := Given.nil_ g2_
  subst gn
  subst e2
  subst e1
  obtain rfl : args = #[.slice a0 n0 c0, .slice a1 n1 c1, .int .u16 a2] := by cases args; simp_all
  exact walk W a0 n0 c0 l0 hl0 hc0 hm0 hA0 hk0 hb0 a1 n1 c1 l1 hl1 hc1 hm1 hA1 hk1 hb1 a2 w2 hord

theorem over : Rows.inflateBehindRow.holds Tryd.pinned (OpenSpec.ofChange Rows.inflateBehindSpec) :=
  OpenClaim.holds_of_wide 4 Tryd.f4 rfl rfl rfl rfl rfl rfl rfl ⟨rfl, rfl, rfl, rfl, rfl⟩ rfl rfl rfl rfl rfl (by kernel_rfl) Tryd.func4 (by kernel_rfl)
    (of_decide_eq_true (by kernel_rfl)) (by unfold Func.isWrapper; first | (rw [if_pos (by decide +kernel)]; kernel_rfl) | (rw [if_neg (by decide +kernel)]; exact ⟨rfl, rfl⟩))
    (fun os started H enc _ => lifted os started H enc)
theorem proved : Rows.InflateBehindCardSaid :=
  Claim7.holds_tied_plain_at .later [] [.data] true (true, "c0cf72399c2b7b9dd5d8844f77c3da84d2c81a36423e31bd2c0aaedb0e5d2643") false
    over (fun _ h => by cases h) (by kernel_rfl) (fun _ h => by cases h) inflateBehind_row_tie rfl ⟨rfl, rfl⟩ (by kernel_rfl) rfl
    (fun f fn hf hfn => by
      obtain rfl : f = 4 := Option.some.inj ((show Tryd.prog.funcNamed "samovar/samovarlaw06.InflateBehind" = some 4 by kernel_rfl).symm.trans hf) |>.symm
      obtain rfl : fn = Tryd.f4 := (Option.some.inj (Tryd.func4.symm.trans hfn)).symm
      exact ⟨by kernel_rfl, fun j t ht => by
        rw [Tryd.params4] at ht
        have hm : t ∈ [22, 22, 29] := by simpa using Array.mem_of_getElem? ht
        have hall : ([22, 22, 29].all fun u => !Tryd.prog.wantsStandIn u) = true := by kernel_rfl
        exact (show Tryd.prog.wantsStandIn t = false by simpa using List.all_eq_true.1 hall t hm)⟩)
    (by kernel_rfl)
end Go.Proofs.YtpnnfekfoomgaaaDoor.inflateBehind
