/- The law NameParts returns true for any texts and any result: descriptors that are put into brackets, with a result behind, are the descriptor of a method with just these parameters, unless they have too many slots. Condition: the variable internal/bytealg.MaxLen has a value (its shape gives it). -/
import Derived.Test.YtbeekjfjfcaobaaDoorWNc
import Derived.Test.YtbeekjfjfcaobaaDoorFr
import Derived.Test.YtbeekjfjfcaobaaDoorTiedN
set_option linter.unusedVariables false
set_option maxRecDepth 100000
namespace Go.Proofs.YtbeekjfjfcaobaaDoor.nameParts
open Go.ChangeShapes Go.WideShapes Go.ChangeAt Go.RowKit

theorem walk {H : Type} {enc : TypeId × Value → H} (w : World) (v0 : Value) (d0 : DataW H) (p0 : List MemPlace) (g0 : One H enc (none : Option Nat) w 26 v0 d0 p0) (v1 : Value) (d1 : DataW H) (p1 : List MemPlace) (g1 : One H enc (none : Option Nat) w 9 v1 d1 p1) (hmx : Mx w) :
    Calls Tryd.prog 7 #[v0, v1] w fun e w' => e = .returned (.bool true) ∧ Below w.heap.size w w' := by
  obtain ⟨a, n, c, us, rfl, hn, hnm, hu, hsz⟩ := One.texts g0
  obtain ⟨R, rfl, hR⟩ := One.text2 g1
  exact nameparts_walk w a n c us hn hnm hu hsz R hR hmx

theorem shut (H : Type) (ds : List (DataW H)) (h : ds.length = Tryd.f7.params.size) : Rows.namePartsSpec.fn H ds = { results := [.lit (.bool true)], args := ds } := by
  rw [Tryd.params7] at h
  have h' : ds.length = 2 := h
  rcases ds with _ | ⟨d0, _ | ⟨d1, _ | ⟨d2, r⟩⟩⟩ <;> simp at h' <;> rfl
set_option maxRecDepth 100000 in
theorem lifted (os : Os) (started : os.Started) (H : Type) (enc : TypeId × Value → H) :
    ReturnsInHanded {} Tryd.checked os 7 .any (fun w args => (Rows.namePartsSpec.pre enc Tryd.prog Tryd.f7 [] false w args ∧ laidMetH Tryd.prog laidN w) ∧ sizedMet enc Tryd.prog Tryd.f7 (OpenSpec.ofChange Rows.namePartsSpec) false w args) (Rows.namePartsSpec.post enc Tryd.prog Tryd.f7 false true false false) := by
  refine law_tiedN (tb := 4) Tryd.func7 (by kernel_rfl) shut rfl (by kernel_rfl) (by kernel_rfl) Tryd.underlying4 (by kernel_rfl) os started H enc
    (ChangeSpec.witness_shaped (enc := enc) (C := Tryd.checked) (os := os) (X := fun w _ => laidMetH Tryd.prog laidN w) false (World.laidAll Tryd.prog os laidN) #[.slice none 0 0, .string ⟨#[]⟩] 8 (World.laidAll_os _ _ _) (World.shaped_of_ZipB (by kernel_rfl) (by kernel_rfl)) (by kernel_rfl) (by kernel_rfl) (by kernel_rfl) (by rw [MakeChecks.laidMetH_plain _ _ _ (by kernel_rfl)]; exact laidMet_laidAll _ (by kernel_rfl) (by kernel_rfl))) ?_
  intro W args ds ps g hmx
  rw [Tryd.params7] at g
  obtain ⟨v0, vs0, d0, ds0, p0, q0, e0, o0, g0_⟩ := Given.one_ g
  obtain ⟨v1, vs1, d1, ds1, p1, q1, e1, o1, g1_⟩ := Given.one_ g0_
  have gn := Given.nil_ g1_
  subst gn
  subst e1
  obtain rfl : args = #[v0, v1] := by cases args; simp_all
  exact walk W v0 d0 p0 o0 v1 d1 p1 o1 hmx

theorem over : Rows.namePartsRow.holds Tryd.pinned (OpenSpec.ofChange Rows.namePartsSpec) :=
  OpenClaim.holds_of_wide 7 Tryd.f7 rfl rfl rfl rfl rfl rfl rfl ⟨rfl, rfl, rfl, rfl, rfl⟩ rfl rfl rfl rfl rfl (by kernel_rfl) Tryd.func7 (by kernel_rfl)
    (of_decide_eq_true (by kernel_rfl)) (by unfold Func.isWrapper; first | (rw [if_pos (by decide +kernel)]; kernel_rfl) | (rw [if_neg (by decide +kernel)]; exact ⟨rfl, rfl⟩))
    (fun os started H enc _ => lifted os started H enc)
theorem proved : Rows.NamePartsCardSaid :=
  Claim7.holds_tied_plain_at .later [] [.data, .pinned] true (true, "76d5ba37483e24cf20204f41aa76c8e15019d9ac6fbb45e6474eb29aaf6c1c50") false
    over (fun _ h => by cases h) (by kernel_rfl) (fun _ h => by cases h) nameParts_row_tie rfl ⟨rfl, rfl⟩ (by kernel_rfl) rfl
    (fun f fn hf hfn => by
      obtain rfl : f = 7 := Option.some.inj ((show Tryd.prog.funcNamed "samovar/samovarlaw13.NameParts" = some 7 by kernel_rfl).symm.trans hf) |>.symm
      obtain rfl : fn = Tryd.f7 := (Option.some.inj (Tryd.func7.symm.trans hfn)).symm
      exact ⟨by kernel_rfl, fun j t ht => by
        rw [Tryd.params7] at ht
        have hm : t ∈ [26, 9] := by simpa using Array.mem_of_getElem? ht
        have hall : ([26, 9].all fun u => !Tryd.prog.wantsStandIn u) = true := by kernel_rfl
        exact (show Tryd.prog.wantsStandIn t = false by simpa using List.all_eq_true.1 hall t hm)⟩)
    (by kernel_rfl)
end Go.Proofs.YtbeekjfjfcaobaaDoor.nameParts
