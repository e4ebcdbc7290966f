/- The law EntryStored returns true for any bytes, any place and any four bytes: stored bytes come back with the sum that they have; with up to four neighbouring ones of them turned they are refused. Condition: the order of the lengths lies where the program's own text lays it (tied). -/
import Derived.Test.YthfhafnffeijpaaDoorWEStored
import Derived.Test.YthfhafnffeijpaaDoorFr
import Derived.Test.YthfhafnffeijpaaDoorTiedE
set_option linter.unusedVariables false
set_option maxRecDepth 100000
namespace Go.Proofs.YthfhafnffeijpaaDoor.entryStored
open Go.ChangeShapes Go.WideShapes Go.ChangeAt Go.RowKit

theorem walk (w : World) (a0 : Option Addr) (n0 c0 : Nat) (l0 : List Int) (hl0 : l0.length = n0) (hc0 : n0 ≤ c0) (hm0 : c0 ≤ 140737488351232) (hA0 : a0 = none → c0 = 0) (hk0 : ∀ k, (none : Option Nat) = some k → c0 ≤ k) (hb0 : Bs w w.heap.size a0 l0) (a1 : Int) (w1 : (Lit.int .u16 a1).wf = true) (l2 : List Int) (hl2 : l2.length = 4) (hw2 : ∀ x ∈ l2, (Lit.int .u8 x).wf = true) (hord : Ord w) :
    Calls Tryd.prog 12 #[.slice a0 n0 c0, .int .u16 a1, .agg (l2.map (Value.int .u8)).toArray] w fun e w' => e = .returned (.bool true) ∧ Below w.heap.size w w' := by
  exact entrystored_walk w a0 n0 c0 l0 hl0 hc0 hm0 hA0 hb0 a1 (bd_u16 w1) l2 hl2 (fun x hx => bd_u8 (hw2 x hx)) hord

theorem shut (H : Type) (ds : List (DataW H)) (h : ds.length = Tryd.f12.params.size) : Rows.entryStoredSpec.fn H ds = { results := [.lit (.bool true)], args := ds } := by
  rw [Tryd.params12] at h
  have h' : ds.length = 3 := h
  rcases ds with _ | ⟨d0, _ | ⟨d1, _ | ⟨d2, _ | ⟨d3, r⟩⟩⟩⟩ <;> simp at h' <;> rfl
set_option maxRecDepth 100000 in
theorem lifted (os : Os) (started : os.Started) (H : Type) (enc : TypeId × Value → H) :
    ReturnsInHanded {} Tryd.checked os 12 .any (fun w args => (Rows.entryStoredSpec.pre enc Tryd.prog Tryd.f12 [] false w args ∧ laidMetH Tryd.prog laidE w) ∧ sizedMet enc Tryd.prog Tryd.f12 (OpenSpec.ofChange Rows.entryStoredSpec) false w args) (Rows.entryStoredSpec.post enc Tryd.prog Tryd.f12 false true false false) := by
  refine law_tiedE (tb := 4) Tryd.func12 (by kernel_rfl) shut rfl (by kernel_rfl) (by kernel_rfl) Tryd.underlying4 (by kernel_rfl) os started H enc
    (ChangeSpec.witness_shaped (enc := enc) (C := Tryd.checked) (os := os) (X := fun w _ => laidMetH Tryd.prog laidE w) false (World.laidAll Tryd.prog os laidE) #[.slice none 0 0, .int .u16 0, .agg #[.int .u8 0, .int .u8 0, .int .u8 0, .int .u8 0]] 8 (World.laidAll_os _ _ _) (World.shaped_of_ZipB (by kernel_rfl) (by kernel_rfl)) (by kernel_rfl) (by kernel_rfl) (by kernel_rfl) (by rw [MakeChecks.laidMetH_plain _ _ _ (by kernel_rfl)]; exact laidMet_laidAll _ (by kernel_rfl) (by kernel_rfl))) ?_
  intro W args ds ps g hord
  rw [Tryd.params12] at g
  obtain ⟨a0, n0, c0, l0, vs0, ds0, q0, e0, hl0, hc0, hm0, hA0, hk0, hb0, g0_⟩ := Given.bytes_ g Tryd.underlying22 Tryd.underlying5 (by kernel_rfl) (by kernel_rfl)
  obtain ⟨a1, vs1, ds1, q1, e1, w1, g1_⟩ := Given.int_ g0_ Tryd.underlying32
  obtain ⟨v2, vs2, dd2, ds2, p2, q2, e2, o2, g2_⟩ := Given.one_ g1_
  obtain ⟨l2, f2, hl2, hw2⟩ := One.arr o2 Tryd.underlying46 Tryd.underlying5 (by kernel_rfl) (by kernel_rfl)
  subst f2
  have gn := Given.nil_ g2_
  subst gn
  subst e2
  subst e1
  obtain rfl : args = #[.slice a0 n0 c0, .int .u16 a1, .agg (l2.map (Value.int .u8)).toArray] := by cases args; simp_all
  exact walk W a0 n0 c0 l0 hl0 hc0 hm0 hA0 hk0 hb0 a1 w1 l2 hl2 hw2 hord

theorem over : Rows.entryStoredRow.holds Tryd.pinned (OpenSpec.ofChange Rows.entryStoredSpec) :=
  OpenClaim.holds_of_wide 12 Tryd.f12 rfl rfl rfl rfl rfl rfl rfl ⟨rfl, rfl, rfl, rfl, rfl⟩ rfl rfl rfl rfl rfl (by kernel_rfl) Tryd.func12 (by kernel_rfl)
    (of_decide_eq_true (by kernel_rfl)) (by unfold Func.isWrapper; first | (rw [if_pos (by decide +kernel)]; kernel_rfl) | (rw [if_neg (by decide +kernel)]; exact ⟨rfl, rfl⟩))
    (fun os started H enc _ => lifted os started H enc)
theorem proved : Rows.EntryStoredCardSaid :=
  Claim7.holds_tied_plain_at .later [] [.data, .data, .pinned] true (true, "9b0c8df2d265814fd1e32159ba04d25aee638c22475b3e85ad0d54752de95f0c") false
    over (fun _ h => by cases h) (by kernel_rfl) (fun _ h => by cases h) entryStored_row_tie rfl ⟨rfl, rfl⟩ (by kernel_rfl) rfl
    (fun f fn hf hfn => by
      obtain rfl : f = 12 := Option.some.inj ((show Tryd.prog.funcNamed "samovar/samovarlaw10.EntryStored" = some 12 by kernel_rfl).symm.trans hf) |>.symm
      obtain rfl : fn = Tryd.f12 := (Option.some.inj (Tryd.func12.symm.trans hfn)).symm
      exact ⟨by kernel_rfl, fun j t ht => by
        rw [Tryd.params12] at ht
        have hm : t ∈ [22, 32, 46] := by simpa using Array.mem_of_getElem? ht
        have hall : ([22, 32, 46].all fun u => !Tryd.prog.wantsStandIn u) = true := by kernel_rfl
        exact (show Tryd.prog.wantsStandIn t = false by simpa using List.all_eq_true.1 hall t hm)⟩)
    (by kernel_rfl)
end Go.Proofs.YthfhafnffeijpaaDoor.entryStored
