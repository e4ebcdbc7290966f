/- The law NameBack returns true for any text and any units: units come back from their bytes, and a text that has units is just the bytes of these. Condition: the variable internal/bytealg.MaxLen has a value (its shape gives it). -/
import Derived.Test.YtbeekjfjfcaobaaDoorWNb
import Derived.Test.YtbeekjfjfcaobaaDoorStr
import Derived.Test.YtbeekjfjfcaobaaDoorFr
import Derived.Test.YtbeekjfjfcaobaaDoorTiedN
set_option linter.unusedVariables false
set_option maxRecDepth 100000
namespace Go.Proofs.YtbeekjfjfcaobaaDoor.nameBack
open Go.ChangeShapes Go.WideShapes Go.ChangeAt Go.RowKit

theorem walk {H : Type} {enc : TypeId × Value → H} (w : World) (v0 : Value) (d0 : DataW H) (p0 : List MemPlace) (g0 : One H enc (none : Option Nat) w 9 v0 d0 p0) (a1 : Option Addr) (n1 c1 : Nat) (l1 : List Int) (hl1 : l1.length = n1) (hc1 : n1 ≤ c1) (hm1 : c1 * 2 ≤ 140737488351232) (hk1 : ∀ k, (none : Option Nat) = some k → c1 ≤ k) (hA1 : a1 = none → c1 = 0) (hb1 : Ints .u16 w w.heap.size a1 l1) (hmx : Mx w) :
    Calls Tryd.prog 6 #[v0, .slice a1 n1 c1] w fun e w' => e = .returned (.bool true) ∧ Below w.heap.size w w' := by
  obtain ⟨s, rfl⟩ := One.str g0
  exact nameback_walk w s a1 n1 c1 (l1.map Int.toNat) (by rw [List.length_map]; exact hl1) (Us.of_ints hb1).1 hmx

theorem shut (H : Type) (ds : List (DataW H)) (h : ds.length = Tryd.f6.params.size) : Rows.nameBackSpec.fn H ds = { results := [.lit (.bool true)], args := ds } := by
  rw [Tryd.params6] at h
  have h' : ds.length = 2 := h
  rcases ds with _ | ⟨d0, _ | ⟨d1, _ | ⟨d2, r⟩⟩⟩ <;> simp at h' <;> rfl
set_option maxRecDepth 100000 in
theorem lifted (os : Os) (started : os.Started) (H : Type) (enc : TypeId × Value → H) :
    ReturnsInHanded {} Tryd.checked os 6 .any (fun w args => (Rows.nameBackSpec.pre enc Tryd.prog Tryd.f6 [] false w args ∧ laidMetH Tryd.prog laidN w) ∧ sizedMet enc Tryd.prog Tryd.f6 (OpenSpec.ofChange Rows.nameBackSpec) false w args) (Rows.nameBackSpec.post enc Tryd.prog Tryd.f6 false true false false) := by
  refine law_tiedN (tb := 4) Tryd.func6 (by kernel_rfl) shut rfl (by kernel_rfl) (by kernel_rfl) Tryd.underlying4 (by kernel_rfl) os started H enc
    (ChangeSpec.witness_shaped (enc := enc) (C := Tryd.checked) (os := os) (X := fun w _ => laidMetH Tryd.prog laidN w) false (World.laidAll Tryd.prog os laidN) #[.string ⟨#[]⟩, .slice none 0 0] 8 (World.laidAll_os _ _ _) (World.shaped_of_ZipB (by kernel_rfl) (by kernel_rfl)) (by kernel_rfl) (by kernel_rfl) (by kernel_rfl) (by rw [MakeChecks.laidMetH_plain _ _ _ (by kernel_rfl)]; exact laidMet_laidAll _ (by kernel_rfl) (by kernel_rfl))) ?_
  intro W args ds ps g hmx
  rw [Tryd.params6] at g
  obtain ⟨v0, vs0, d0, ds0, p0, q0, e0, o0, g0_⟩ := Given.one_ g
  obtain ⟨v1, vs1, dd1, ds1, p1, q1, e1, o1, g1_⟩ := Given.one_ g0_
  obtain ⟨a1, n1, c1, l1, f1, hl1, hc1, hm1, hk1, hA1, hb1⟩ := One.ints o1 Tryd.underlying31 Tryd.underlying38 (by kernel_rfl) (eb := 2) (by kernel_rfl)
  subst f1
  have gn := Given.nil_ g1_
  subst gn
  subst e1
  obtain rfl : args = #[v0, .slice a1 n1 c1] := by cases args; simp_all
  exact walk W v0 d0 p0 o0 a1 n1 c1 l1 hl1 hc1 hm1 hk1 hA1 hb1 hmx

theorem over : Rows.nameBackRow.holds Tryd.pinned (OpenSpec.ofChange Rows.nameBackSpec) :=
  OpenClaim.holds_of_wide 6 Tryd.f6 rfl rfl rfl rfl rfl rfl rfl ⟨rfl, rfl, rfl, rfl, rfl⟩ rfl rfl rfl rfl rfl (by kernel_rfl) Tryd.func6 (by kernel_rfl)
    (of_decide_eq_true (by kernel_rfl)) (by unfold Func.isWrapper; first | (rw [if_pos (by decide +kernel)]; kernel_rfl) | (rw [if_neg (by decide +kernel)]; exact ⟨rfl, rfl⟩))
    (fun os started H enc _ => lifted os started H enc)
theorem proved : Rows.NameBackCardSaid :=
  Claim7.holds_tied_plain_at .later [] [.data, .pinned] true (true, "76d5ba37483e24cf20204f41aa76c8e15019d9ac6fbb45e6474eb29aaf6c1c50") false
    over (fun _ h => by cases h) (by kernel_rfl) (fun _ h => by cases h) nameBack_row_tie rfl ⟨rfl, rfl⟩ (by kernel_rfl) rfl
    (fun f fn hf hfn => by
      obtain rfl : f = 6 := Option.some.inj ((show Tryd.prog.funcNamed "samovar/samovarlaw13.NameBack" = some 6 by kernel_rfl).symm.trans hf) |>.symm
      obtain rfl : fn = Tryd.f6 := (Option.some.inj (Tryd.func6.symm.trans hfn)).symm
      exact ⟨by kernel_rfl, fun j t ht => by
        rw [Tryd.params6] at ht
        have hm : t ∈ [9, 31] := by simpa using Array.mem_of_getElem? ht
        have hall : ([9, 31].all fun u => !Tryd.prog.wantsStandIn u) = true := by kernel_rfl
        exact (show Tryd.prog.wantsStandIn t = false by simpa using List.all_eq_true.1 hall t hm)⟩)
    (by kernel_rfl)
end Go.Proofs.YtbeekjfjfcaobaaDoor.nameBack
