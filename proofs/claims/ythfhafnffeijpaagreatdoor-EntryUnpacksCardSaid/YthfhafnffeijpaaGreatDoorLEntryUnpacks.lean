/- The law EntryUnpacks returns true for any record and any bytes: they are unpacked to what the document says, or refused by its first reason; the bytes stay. Condition: the order of the lengths lies where the program's own text lays it (tied). -/
import Derived.Test.YthfhafnffeijpaaGreatDoorWEUnp
import Derived.Test.YthfhafnffeijpaaGreatDoorFr
import Derived.Test.YthfhafnffeijpaaGreatDoorTiedE
set_option linter.unusedVariables false
set_option maxRecDepth 100000
namespace Go.Proofs.YthfhafnffeijpaaGreatDoor.entryUnpacks
open Go.ChangeShapes Go.WideShapes Go.ChangeAt Go.RowKit

theorem walk {H : Type} {enc : TypeId × Value → H} (w : World) (v0 : Value) (d0 : DataW H) (p0 : List MemPlace) (g0 : One H enc (none : Option Nat) w 23 v0 d0 p0) (a1 : Option Addr) (n1 c1 : Nat) (l1 : List Int) (hl1 : l1.length = n1) (hc1 : n1 ≤ c1) (hm1 : c1 ≤ 140737488351232) (hA1 : a1 = none → c1 = 0) (hk1 : ∀ k, (none : Option Nat) = some k → c1 ≤ k) (hb1 : Bs w w.heap.size a1 l1) (hord : Ord w) :
    Calls Tryz.prog 3 #[v0, .slice a1 n1 c1] w fun e w' => e = .returned (.bool true) ∧ Below w.heap.size w w' := by
  obtain ⟨nm, me, pk, sz, sm, at_, hd, rfl, _⟩ := One.record g0
  exact entryunpacks_walk w nm me pk sz sm at_ hd a1 n1 c1 l1 hl1 hc1 hA1 (by omega) hb1 hord

theorem shut (H : Type) (ds : List (DataW H)) (h : ds.length = Tryz.f3.params.size) : Rows.entryUnpacksSpec.fn H ds = { results := [.lit (.bool true)], args := ds } := by
  rw [Tryz.params3] at h
  have h' : ds.length = 2 := h
  rcases ds with _ | ⟨d0, _ | ⟨d1, _ | ⟨d2, r⟩⟩⟩ <;> simp at h' <;> rfl
set_option maxRecDepth 100000 in
theorem lifted (os : Os) (started : os.Started) (H : Type) (enc : TypeId × Value → H) :
    ReturnsInHanded {} Tryz.checked os 3 .any (fun w args => (Rows.entryUnpacksSpec.pre enc Tryz.prog Tryz.f3 [] false w args ∧ laidMetH Tryz.prog laidE w) ∧ sizedMet enc Tryz.prog Tryz.f3 (OpenSpec.ofChange Rows.entryUnpacksSpec) false w args) (Rows.entryUnpacksSpec.post enc Tryz.prog Tryz.f3 false true false false) := by
  refine law_tiedE (tb := 4) Tryz.func3 (by kernel_rfl) shut rfl (by kernel_rfl) (by kernel_rfl) Tryz.underlying4 (by kernel_rfl) os started H enc
    (ChangeSpec.witness_shaped (enc := enc) (C := Tryz.checked) (os := os) (X := fun w _ => laidMetH Tryz.prog laidE w) false (World.laidAll Tryz.prog os laidE) #[.agg #[.string ⟨#[]⟩, .int .i64 0, .int .i64 0, .int .i64 0, .int .i64 0, .int .i64 0, .int .i64 0], .slice none 0 0] 8 (World.laidAll_os _ _ _) (World.shaped_of_ZipB (by kernel_rfl) (by kernel_rfl)) (by kernel_rfl) (by kernel_rfl) (by kernel_rfl) (by rw [MakeChecks.laidMetH_plain _ _ _ (by kernel_rfl)]; exact laidMet_laidAll _ (by kernel_rfl) (by kernel_rfl))) ?_
  intro W args ds ps g hord
  rw [Tryz.params3] at g
  obtain ⟨v0, vs0, d0, ds0, p0, q0, e0, o0, g0_⟩ := Given.one_ g
  obtain ⟨a1, n1, c1, l1, vs1, ds1, q1, e1, hl1, hc1, hm1, hA1, hk1, hb1, g1_⟩ := Given.bytes_ g0_ Tryz.underlying24 Tryz.underlying5 (by kernel_rfl) (by kernel_rfl)
  have gn := Given.nil_ g1_
  subst gn
  subst e1
  obtain rfl : args = #[v0, .slice a1 n1 c1] := by cases args; simp_all
  exact walk W v0 d0 p0 o0 a1 n1 c1 l1 hl1 hc1 hm1 hA1 hk1 hb1 hord

theorem over : Rows.entryUnpacksRow.holds Tryz.pinned (OpenSpec.ofChange Rows.entryUnpacksSpec) :=
  OpenClaim.holds_of_wide 3 Tryz.f3 rfl rfl rfl rfl rfl rfl rfl ⟨rfl, rfl, rfl, rfl, rfl⟩ rfl rfl rfl rfl rfl (by kernel_rfl) Tryz.func3 (by kernel_rfl)
    (of_decide_eq_true (by kernel_rfl)) (by unfold Func.isWrapper; first | (rw [if_pos (by decide +kernel)]; kernel_rfl) | (rw [if_neg (by decide +kernel)]; exact ⟨rfl, rfl⟩))
    (fun os started H enc _ => lifted os started H enc)
theorem proved : Rows.EntryUnpacksCardSaid :=
  Claim7.holds_tied_plain_at .later [] [.data, .data, .pinned] true (true, "dca163c6dc833d08438bed1bd31cd8c510f5153306fe2cc0bce705f996db6fc8") false
    over (fun _ h => by cases h) (by kernel_rfl) (fun _ h => by cases h) entryUnpacks_row_tie rfl ⟨rfl, rfl⟩ (by kernel_rfl) rfl
    (fun f fn hf hfn => by
      obtain rfl : f = 3 := Option.some.inj ((show Tryz.prog.funcNamed "samovar/samovarlaw10.EntryUnpacks" = some 3 by kernel_rfl).symm.trans hf) |>.symm
      obtain rfl : fn = Tryz.f3 := (Option.some.inj (Tryz.func3.symm.trans hfn)).symm
      exact ⟨by kernel_rfl, fun j t ht => by
        rw [Tryz.params3] at ht
        have hm : t ∈ [23, 24] := by simpa using Array.mem_of_getElem? ht
        have hall : ([23, 24].all fun u => !Tryz.prog.wantsStandIn u) = true := by kernel_rfl
        exact (show Tryz.prog.wantsStandIn t = false by simpa using List.all_eq_true.1 hall t hm)⟩)
    (by kernel_rfl)
end Go.Proofs.YthfhafnffeijpaaGreatDoor.entryUnpacks
