/- The law SqueezeRows returns true for any byte and any number: bytes that are all one become few, however many they are, and come out again. Condition: the order of the lengths lies where the program's own text lays it (tied). -/
import Derived.Test.YthfhafnffeijpaaDoorWSRows
import Derived.Test.YthfhafnffeijpaaDoorFr
import Derived.Test.YthfhafnffeijpaaDoorTied
set_option linter.unusedVariables false
set_option maxRecDepth 100000
namespace Go.Proofs.YthfhafnffeijpaaDoor.squeezeRows
open Go.ChangeShapes Go.WideShapes Go.ChangeAt Go.RowKit

theorem walk (w : World) (a0 : Int) (w0 : (Lit.int .u8 a0).wf = true) (a1 : Int) (w1 : (Lit.int .u16 a1).wf = true) (hord : Ord w) :
    Calls Tryd.prog 5 #[.int .u8 a0, .int .u16 a1] w fun e w' => e = .returned (.bool true) ∧ Below w.heap.size w w' := by
  exact squeezerows_walk w a0 (bd_u8 w0) a1 (bd_u16 w1) hord

theorem shut (H : Type) (ds : List (DataW H)) (h : ds.length = Tryd.f5.params.size) : Rows.squeezeRowsSpec.fn H ds = { results := [.lit (.bool true)], args := ds } := by
  rw [Tryd.params5] at h
  have h' : ds.length = 2 := h
  rcases ds with _ | ⟨d0, _ | ⟨d1, _ | ⟨d2, r⟩⟩⟩ <;> simp at h' <;> rfl
set_option maxRecDepth 100000 in
theorem lifted (os : Os) (started : os.Started) (H : Type) (enc : TypeId × Value → H) :
    ReturnsInHanded {} Tryd.checked os 5 .any (fun w args => (Rows.squeezeRowsSpec.pre enc Tryd.prog Tryd.f5 [] false w args ∧ laidMetH Tryd.prog laidL w) ∧ sizedMet enc Tryd.prog Tryd.f5 (OpenSpec.ofChange Rows.squeezeRowsSpec) false w args) (Rows.squeezeRowsSpec.post enc Tryd.prog Tryd.f5 false true false false) := by
  refine law_tied (tb := 4) Tryd.func5 (by kernel_rfl) shut rfl (by kernel_rfl) (by kernel_rfl) Tryd.underlying4 (by kernel_rfl) os started H enc
    (ChangeSpec.witness_shaped (enc := enc) (C := Tryd.checked) (os := os) (X := fun w _ => laidMetH Tryd.prog laidL w) false (World.doorLaid Tryd.prog 14 os) #[.int .u8 0, .int .u16 0] 8 rfl (World.shaped_of_RefB (by kernel_rfl) (by kernel_rfl)) (by kernel_rfl) (by kernel_rfl) (by kernel_rfl) (door_met os _)) ?_
  intro W args ds ps g hord
  rw [Tryd.params5] at g
  obtain ⟨a0, vs0, ds0, q0, e0, w0, g0_⟩ := Given.int_ g Tryd.underlying5
  obtain ⟨a1, vs1, ds1, q1, e1, w1, g1_⟩ := Given.int_ g0_ Tryd.underlying32
  have gn := Given.nil_ g1_
  subst gn
  subst e1
  obtain rfl : args = #[.int .u8 a0, .int .u16 a1] := by cases args; simp_all
  exact walk W a0 w0 a1 w1 hord

theorem over : Rows.squeezeRowsRow.holds Tryd.pinned (OpenSpec.ofChange Rows.squeezeRowsSpec) :=
  OpenClaim.holds_of_wide 5 Tryd.f5 rfl rfl rfl rfl rfl rfl rfl ⟨rfl, rfl, rfl, rfl, rfl⟩ rfl rfl rfl rfl rfl (by kernel_rfl) Tryd.func5 (by kernel_rfl)
    (of_decide_eq_true (by kernel_rfl)) (by unfold Func.isWrapper; first | (rw [if_pos (by decide +kernel)]; kernel_rfl) | (rw [if_neg (by decide +kernel)]; exact ⟨rfl, rfl⟩))
    (fun os started H enc _ => lifted os started H enc)
theorem proved : Rows.SqueezeRowsCardSaid :=
  Claim7.holds_tied_plain_at .later [] [.data] true (true, "9b0c8df2d265814fd1e32159ba04d25aee638c22475b3e85ad0d54752de95f0c") false
    over (fun _ h => by cases h) (by kernel_rfl) (fun _ h => by cases h) squeezeRows_row_tie rfl ⟨rfl, rfl⟩ (by kernel_rfl) rfl
    (fun f fn hf hfn => by
      obtain rfl : f = 5 := Option.some.inj ((show Tryd.prog.funcNamed "samovar/samovarlaw07.SqueezeRows" = some 5 by kernel_rfl).symm.trans hf) |>.symm
      obtain rfl : fn = Tryd.f5 := (Option.some.inj (Tryd.func5.symm.trans hfn)).symm
      exact ⟨by kernel_rfl, fun j t ht => by
        rw [Tryd.params5] at ht
        have hm : t ∈ [5, 32] := by simpa using Array.mem_of_getElem? ht
        have hall : ([5, 32].all fun u => !Tryd.prog.wantsStandIn u) = true := by kernel_rfl
        exact (show Tryd.prog.wantsStandIn t = false by simpa using List.all_eq_true.1 hall t hm)⟩)
    (by kernel_rfl)
end Go.Proofs.YthfhafnffeijpaaDoor.squeezeRows
