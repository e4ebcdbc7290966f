/- The law NameMethods returns true for any text: as a descriptor of a method package name takes it apart as the document says, or refuses it. Condition: the variable internal/bytealg.MaxLen has a value (its shape gives it). -/
import Derived.Test.YtbeekjfjfcaobaaDoorWNa
import Derived.Test.YtbeekjfjfcaobaaDoorStr
import Derived.Test.YtbeekjfjfcaobaaDoorFr
import Derived.Test.YtbeekjfjfcaobaaDoorTiedN
set_option linter.unusedVariables false
set_option maxRecDepth 100000
namespace Go.Proofs.YtbeekjfjfcaobaaDoor.nameMethods
open Go.ChangeShapes Go.WideShapes Go.ChangeAt Go.RowKit

theorem walk {H : Type} {enc : TypeId × Value → H} (w : World) (v0 : Value) (d0 : DataW H) (p0 : List MemPlace) (g0 : One H enc (none : Option Nat) w 9 v0 d0 p0) (hmx : Mx w) :
    Calls Tryd.prog 4 #[v0] w fun e w' => e = .returned (.bool true) ∧ Below w.heap.size w w' := by
  obtain ⟨s, rfl⟩ := One.str g0
  exact namemethods_walk w s hmx

theorem shut (H : Type) (ds : List (DataW H)) (h : ds.length = Tryd.f4.params.size) : Rows.nameMethodsSpec.fn H ds = { results := [.lit (.bool true)], args := ds } := by
  rw [Tryd.params4] at h
  have h' : ds.length = 1 := h
  rcases ds with _ | ⟨d0, _ | ⟨d1, r⟩⟩ <;> simp at h' <;> rfl
set_option maxRecDepth 100000 in
theorem lifted (os : Os) (started : os.Started) (H : Type) (enc : TypeId × Value → H) :
    ReturnsInHanded {} Tryd.checked os 4 .any (fun w args => (Rows.nameMethodsSpec.pre enc Tryd.prog Tryd.f4 [] false w args ∧ laidMetH Tryd.prog laidN w) ∧ sizedMet enc Tryd.prog Tryd.f4 (OpenSpec.ofChange Rows.nameMethodsSpec) false w args) (Rows.nameMethodsSpec.post enc Tryd.prog Tryd.f4 false true false false) := by
  refine law_tiedN (tb := 4) Tryd.func4 (by kernel_rfl) shut rfl (by kernel_rfl) (by kernel_rfl) Tryd.underlying4 (by kernel_rfl) os started H enc
    (ChangeSpec.witness_shaped (enc := enc) (C := Tryd.checked) (os := os) (X := fun w _ => laidMetH Tryd.prog laidN w) false (World.laidAll Tryd.prog os laidN) #[.string ⟨#[]⟩] 8 (World.laidAll_os _ _ _) (World.shaped_of_ZipB (by kernel_rfl) (by kernel_rfl)) (by kernel_rfl) (by kernel_rfl) (by kernel_rfl) (by rw [MakeChecks.laidMetH_plain _ _ _ (by kernel_rfl)]; exact laidMet_laidAll _ (by kernel_rfl) (by kernel_rfl))) ?_
  intro W args ds ps g hmx
  rw [Tryd.params4] at g
  obtain ⟨v0, vs0, d0, ds0, p0, q0, e0, o0, g0_⟩ := Given.one_ g
  have gn := Given.nil_ g0_
  subst gn
  obtain rfl : args = #[v0] := by cases args; simp_all
  exact walk W v0 d0 p0 o0 hmx

theorem over : Rows.nameMethodsRow.holds Tryd.pinned (OpenSpec.ofChange Rows.nameMethodsSpec) :=
  OpenClaim.holds_of_wide 4 Tryd.f4 rfl rfl rfl rfl rfl rfl rfl ⟨rfl, rfl, rfl, rfl, rfl⟩ rfl rfl rfl rfl rfl (by kernel_rfl) Tryd.func4 (by kernel_rfl)
    (of_decide_eq_true (by kernel_rfl)) (by unfold Func.isWrapper; first | (rw [if_pos (by decide +kernel)]; kernel_rfl) | (rw [if_neg (by decide +kernel)]; exact ⟨rfl, rfl⟩))
    (fun os started H enc _ => lifted os started H enc)
theorem proved : Rows.NameMethodsCardSaid :=
  Claim7.holds_tied_plain_at .later [] [.data, .pinned] true (true, "76d5ba37483e24cf20204f41aa76c8e15019d9ac6fbb45e6474eb29aaf6c1c50") false
    over (fun _ h => by cases h) (by kernel_rfl) (fun _ h => by cases h) nameMethods_row_tie rfl ⟨rfl, rfl⟩ (by kernel_rfl) rfl
    (fun f fn hf hfn => by
      obtain rfl : f = 4 := Option.some.inj ((show Tryd.prog.funcNamed "samovar/samovarlaw13.NameMethods" = some 4 by kernel_rfl).symm.trans hf) |>.symm
      obtain rfl : fn = Tryd.f4 := (Option.some.inj (Tryd.func4.symm.trans hfn)).symm
      exact ⟨by kernel_rfl, fun j t ht => by
        rw [Tryd.params4] at ht
        have hm : t ∈ [9] := by simpa using Array.mem_of_getElem? ht
        have hall : ([9].all fun u => !Tryd.prog.wantsStandIn u) = true := by kernel_rfl
        exact (show Tryd.prog.wantsStandIn t = false by simpa using List.all_eq_true.1 hall t hm)⟩)
    (by kernel_rfl)
end Go.Proofs.YtbeekjfjfcaobaaDoor.nameMethods
