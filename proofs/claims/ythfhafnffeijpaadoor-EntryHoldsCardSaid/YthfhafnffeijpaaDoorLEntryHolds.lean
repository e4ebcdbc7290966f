/- The law EntryHolds returns true for any record and any bytes: what is answered has as many bytes as its record says, and no more than may be, and their sum is the record's; it is new memory. Condition: the order of the lengths lies where the program's own text lays it (tied). -/
import Derived.Test.YthfhafnffeijpaaDoorWEHolds
import Derived.Test.YthfhafnffeijpaaDoorFr
import Derived.Test.YthfhafnffeijpaaDoorTiedE
set_option linter.unusedVariables false
set_option maxRecDepth 100000
namespace Go.Proofs.YthfhafnffeijpaaDoor.entryHolds
open Go.ChangeShapes Go.WideShapes Go.ChangeAt Go.RowKit

theorem walk {H : Type} {enc : TypeId × Value → H} (w : World) (v0 : Value) (d0 : DataW H) (p0 : List MemPlace) (g0 : One H enc (none : Option Nat) w 40 v0 d0 p0) (a1 : Option Addr) (n1 c1 : Nat) (l1 : List Int) (hl1 : l1.length = n1) (hc1 : n1 ≤ c1) (hm1 : c1 ≤ 140737488351232) (hA1 : a1 = none → c1 = 0) (hk1 : ∀ k, (none : Option Nat) = some k → c1 ≤ k) (hb1 : Bs w w.heap.size a1 l1) (hord : Ord w) :
    Calls Tryd.prog 11 #[v0, .slice a1 n1 c1] w fun e w' => e = .returned (.bool true) ∧ Below w.heap.size w w' := by
  obtain ⟨nm, me, pk, sz, sm, at_, hd, rfl, _⟩ := One.record g0
  exact entryholds_walk w nm me pk sz sm at_ hd a1 n1 c1 l1 hl1 hc1 hA1 (by omega) hb1 hord

theorem shut (H : Type) (ds : List (DataW H)) (h : ds.length = Tryd.f11.params.size) : Rows.entryHoldsSpec.fn H ds = { results := [.lit (.bool true)], args := ds } := by
  rw [Tryd.params11] at h
  have h' : ds.length = 2 := h
  rcases ds with _ | ⟨d0, _ | ⟨d1, _ | ⟨d2, r⟩⟩⟩ <;> simp at h' <;> rfl
set_option maxRecDepth 100000 in
theorem lifted (os : Os) (started : os.Started) (H : Type) (enc : TypeId × Value → H) :
    ReturnsInHanded {} Tryd.checked os 11 .any (fun w args => (Rows.entryHoldsSpec.pre enc Tryd.prog Tryd.f11 [] false w args ∧ laidMetH Tryd.prog laidE w) ∧ sizedMet enc Tryd.prog Tryd.f11 (OpenSpec.ofChange Rows.entryHoldsSpec) false w args) (Rows.entryHoldsSpec.post enc Tryd.prog Tryd.f11 false true false false) := by
  refine law_tiedE (tb := 4) Tryd.func11 (by kernel_rfl) shut rfl (by kernel_rfl) (by kernel_rfl) Tryd.underlying4 (by kernel_rfl) os started H enc
    (ChangeSpec.witness_shaped (enc := enc) (C := Tryd.checked) (os := os) (X := fun w _ => laidMetH Tryd.prog laidE w) false (World.laidAll Tryd.prog os laidE) #[.agg #[.string ⟨#[]⟩, .int .i64 0, .int .i64 0, .int .i64 0, .int .i64 0, .int .i64 0, .int .i64 0], .slice none 0 0] 8 (World.laidAll_os _ _ _) (World.shaped_of_ZipB (by kernel_rfl) (by kernel_rfl)) (by kernel_rfl) (by kernel_rfl) (by kernel_rfl) (by rw [MakeChecks.laidMetH_plain _ _ _ (by kernel_rfl)]; exact laidMet_laidAll _ (by kernel_rfl) (by kernel_rfl))) ?_
  intro W args ds ps g hord
  rw [Tryd.params11] at g
  obtain ⟨v0, vs0, d0, ds0, p0, q0, e0, o0, g0_⟩ := Given.one_ g
  obtain ⟨a1, n1, c1, l1, vs1, ds1, q1, e1, hl1, hc1, hm1, hA1, hk1, hb1, g1_⟩ := Given.bytes_ g0_ Tryd.underlying22 Tryd.underlying5 (by kernel_rfl) (by kernel_rfl)
  have gn := Given.nil_ g1_
  subst gn
  subst e1
  obtain rfl : args = #[v0, .slice a1 n1 c1] := by cases args; simp_all
  exact walk W v0 d0 p0 o0 a1 n1 c1 l1 hl1 hc1 hm1 hA1 hk1 hb1 hord

theorem over : Rows.entryHoldsRow.holds Tryd.pinned (OpenSpec.ofChange Rows.entryHoldsSpec) :=
  OpenClaim.holds_of_wide 11 Tryd.f11 rfl rfl rfl rfl rfl rfl rfl ⟨rfl, rfl, rfl, rfl, rfl⟩ rfl rfl rfl rfl rfl (by kernel_rfl) Tryd.func11 (by kernel_rfl)
    (of_decide_eq_true (by kernel_rfl)) (by unfold Func.isWrapper; first | (rw [if_pos (by decide +kernel)]; kernel_rfl) | (rw [if_neg (by decide +kernel)]; exact ⟨rfl, rfl⟩))
    (fun os started H enc _ => lifted os started H enc)
theorem proved : Rows.EntryHoldsCardSaid :=
  Claim7.holds_tied_plain_at .later [] [.data, .data, .pinned] true (true, "9b0c8df2d265814fd1e32159ba04d25aee638c22475b3e85ad0d54752de95f0c") false
    over (fun _ h => by cases h) (by kernel_rfl) (fun _ h => by cases h) entryHolds_row_tie rfl ⟨rfl, rfl⟩ (by kernel_rfl) rfl
    (fun f fn hf hfn => by
      obtain rfl : f = 11 := Option.some.inj ((show Tryd.prog.funcNamed "samovar/samovarlaw10.EntryHolds" = some 11 by kernel_rfl).symm.trans hf) |>.symm
      obtain rfl : fn = Tryd.f11 := (Option.some.inj (Tryd.func11.symm.trans hfn)).symm
      exact ⟨by kernel_rfl, fun j t ht => by
        rw [Tryd.params11] at ht
        have hm : t ∈ [40, 22] := by simpa using Array.mem_of_getElem? ht
        have hall : ([40, 22].all fun u => !Tryd.prog.wantsStandIn u) = true := by kernel_rfl
        exact (show Tryd.prog.wantsStandIn t = false by simpa using List.all_eq_true.1 hall t hm)⟩)
    (by kernel_rfl)
end Go.Proofs.YthfhafnffeijpaaDoor.entryHolds
