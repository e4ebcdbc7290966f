/- The law EntryFinds returns true for any bytes and any name: the name is found in the archive as the document says, its bytes or why there are none. Conditions: the order of the lengths lies where the program's own text lays it (tied); the variable internal/bytealg.MaxLen has a value (its shape gives it). -/
import Derived.Test.YtdcpibglbanchaaGreatDoorWEFinds
import Derived.Test.YtdcpibglbanchaaGreatDoorFr
import Derived.Test.YtdcpibglbanchaaGreatDoorTiedZ
set_option linter.unusedVariables false
set_option maxRecDepth 100000
namespace Go.Proofs.YtdcpibglbanchaaGreatDoor.entryFinds
open Go.ChangeShapes Go.WideShapes Go.ChangeAt Go.RowKit

theorem walk {H : Type} {enc : TypeId × Value → H} (w : World) (a0 : Option Addr) (n0 c0 : Nat) (l0 : List Int) (hl0 : l0.length = n0) (hc0 : n0 ≤ c0) (hm0 : c0 ≤ 140737488351232) (hA0 : a0 = none → c0 = 0) (hk0 : ∀ k, (none : Option Nat) = some k → c0 ≤ k) (hb0 : Bs w w.heap.size a0 l0) (v1 : Value) (d1 : DataW H) (p1 : List MemPlace) (g1 : One H enc (none : Option Nat) w 9 v1 d1 p1) (hmx : Mx w) (hord : Ord w) :
    Calls Tryz.prog 3 #[.slice a0 n0 c0, v1] w fun e w' => e = .returned (.bool true) ∧ Below w.heap.size w w' := by
  obtain ⟨s, rfl⟩ := One.str g1
  exact entryfinds_walk w a0 n0 c0 l0 hl0 hc0 hA0 (by omega) hb0 s hmx hord

theorem shut (H : Type) (ds : List (DataW H)) (h : ds.length = Tryz.f3.params.size) : Rows.entryFindsSpec.fn H ds = { results := [.lit (.bool true)], args := ds } := by
  rw [Tryz.params3] at h
  have h' : ds.length = 2 := h
  rcases ds with _ | ⟨d0, _ | ⟨d1, _ | ⟨d2, r⟩⟩⟩ <;> simp at h' <;> rfl
set_option maxRecDepth 100000 in
theorem lifted (os : Os) (started : os.Started) (H : Type) (enc : TypeId × Value → H) :
    ReturnsInHanded {} Tryz.checked os 3 .any (fun w args => (Rows.entryFindsSpec.pre enc Tryz.prog Tryz.f3 [] false w args ∧ laidMetH Tryz.prog laidE w) ∧ sizedMet enc Tryz.prog Tryz.f3 (OpenSpec.ofChange Rows.entryFindsSpec) false w args) (Rows.entryFindsSpec.post enc Tryz.prog Tryz.f3 false true false false) := by
  refine law_tiedZ (tb := 4) Tryz.func3 (by kernel_rfl) shut rfl (by kernel_rfl) (by kernel_rfl) Tryz.underlying4 (by kernel_rfl) os started H enc
    (ChangeSpec.witness_shaped (enc := enc) (C := Tryz.checked) (os := os) (X := fun w _ => laidMetH Tryz.prog laidE w) false (World.laidAll Tryz.prog os laidE) #[.slice none 0 0, .string ⟨#[]⟩] 8 (World.laidAll_os _ _ _) (World.shaped_of_ZipB (by kernel_rfl) (by kernel_rfl)) (by kernel_rfl) (by kernel_rfl) (by kernel_rfl) (by rw [MakeChecks.laidMetH_plain _ _ _ (by kernel_rfl)]; exact laidMet_laidAll _ (by kernel_rfl) (by kernel_rfl))) ?_
  intro W args ds ps g hmx hord
  rw [Tryz.params3] at g
  obtain ⟨a0, n0, c0, l0, vs0, ds0, q0, e0, hl0, hc0, hm0, hA0, hk0, hb0, g0_⟩ := Given.bytes_ g Tryz.underlying22 Tryz.underlying5 (by kernel_rfl) (by kernel_rfl)
  obtain ⟨v1, vs1, d1, ds1, p1, q1, e1, o1, g1_⟩ := Given.one_ g0_
  have gn := Given.nil_ g1_
  subst gn
  subst e1
  obtain rfl : args = #[.slice a0 n0 c0, v1] := by cases args; simp_all
  exact walk W a0 n0 c0 l0 hl0 hc0 hm0 hA0 hk0 hb0 v1 d1 p1 o1 hmx hord

theorem over : Rows.entryFindsRow.holds Tryz.pinned (OpenSpec.ofChange Rows.entryFindsSpec) :=
  OpenClaim.holds_of_wide 3 Tryz.f3 rfl rfl rfl rfl rfl rfl rfl ⟨rfl, rfl, rfl, rfl, rfl⟩ rfl rfl rfl rfl rfl (by kernel_rfl) Tryz.func3 (by kernel_rfl)
    (of_decide_eq_true (by kernel_rfl)) (by unfold Func.isWrapper; first | (rw [if_pos (by decide +kernel)]; kernel_rfl) | (rw [if_neg (by decide +kernel)]; exact ⟨rfl, rfl⟩))
    (fun os started H enc _ => lifted os started H enc)
theorem proved : Rows.EntryFindsCardSaid :=
  Claim7.holds_tied_plain_at .later [] [.data, .data, .pinned] true (true, "ca5753c6f5f8afd41c54bd2619a50209c1036137d0a2717ee3bef2a754e37044") false
    over (fun _ h => by cases h) (by kernel_rfl) (fun _ h => by cases h) entryFinds_row_tie rfl ⟨rfl, rfl⟩ (by kernel_rfl) rfl
    (fun f fn hf hfn => by
      obtain rfl : f = 3 := Option.some.inj ((show Tryz.prog.funcNamed "samovar/samovarlaw10.EntryFinds" = some 3 by kernel_rfl).symm.trans hf) |>.symm
      obtain rfl : fn = Tryz.f3 := (Option.some.inj (Tryz.func3.symm.trans hfn)).symm
      exact ⟨by kernel_rfl, fun j t ht => by
        rw [Tryz.params3] at ht
        have hm : t ∈ [22, 9] := by simpa using Array.mem_of_getElem? ht
        have hall : ([22, 9].all fun u => !Tryz.prog.wantsStandIn u) = true := by kernel_rfl
        exact (show Tryz.prog.wantsStandIn t = false by simpa using List.all_eq_true.1 hall t hm)⟩)
    (by kernel_rfl)
end Go.Proofs.YtdcpibglbanchaaGreatDoor.entryFinds
