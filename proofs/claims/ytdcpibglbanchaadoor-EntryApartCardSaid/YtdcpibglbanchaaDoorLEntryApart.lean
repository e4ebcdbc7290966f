/- The law EntryApart returns true for any bytes, any entry of theirs, any place within its packed bytes and any byte: another byte there changes nothing of any other entry, or makes of the bytes no archive. Conditions: the order of the lengths lies where the program's own text lays it (tied); the variable internal/bytealg.MaxLen has a value (its shape gives it). -/
import Derived.Test.YtdcpibglbanchaaDoorWEApart
import Derived.Test.YtdcpibglbanchaaDoorFr
import Derived.Test.YtdcpibglbanchaaDoorTiedZ
set_option linter.unusedVariables false
set_option maxRecDepth 100000
namespace Go.Proofs.YtdcpibglbanchaaDoor.entryApart
open Go.ChangeShapes Go.WideShapes Go.ChangeAt Go.RowKit

theorem walk (w : World) (a0 : Option Addr) (n0 c0 : Nat) (l0 : List Int) (hl0 : l0.length = n0) (hc0 : n0 ≤ c0) (hm0 : c0 ≤ 140737488351232) (hA0 : a0 = none → c0 = 0) (hk0 : ∀ k, (none : Option Nat) = some k → c0 ≤ k) (hb0 : Bs w w.heap.size a0 l0) (a1 : Int) (w1 : (Lit.int .u8 a1).wf = true) (a2 : Int) (w2 : (Lit.int .u16 a2).wf = true) (a3 : Int) (w3 : (Lit.int .u8 a3).wf = true) (hmx : Mx w) (hord : Ord w) :
    Calls Tryd.prog 3 #[.slice a0 n0 c0, .int .u8 a1, .int .u16 a2, .int .u8 a3] w fun e w' => e = .returned (.bool true) ∧ Below w.heap.size w w' := by
  exact entryapart_walk w a0 n0 c0 l0 hl0 hc0 hA0 (by omega) hb0 a1 a2 a3 (bd_u8 w1) (bd_u16 w2) (bd_u8 w3) hmx hord

theorem shut (H : Type) (ds : List (DataW H)) (h : ds.length = Tryd.f3.params.size) : Rows.entryApartSpec.fn H ds = { results := [.lit (.bool true)], args := ds } := by
  rw [Tryd.params3] at h
  have h' : ds.length = 4 := h
  rcases ds with _ | ⟨d0, _ | ⟨d1, _ | ⟨d2, _ | ⟨d3, _ | ⟨d4, r⟩⟩⟩⟩⟩ <;> simp at h' <;> rfl
set_option maxRecDepth 100000 in
theorem lifted (os : Os) (started : os.Started) (H : Type) (enc : TypeId × Value → H) :
    ReturnsInHanded {} Tryd.checked os 3 .any (fun w args => (Rows.entryApartSpec.pre enc Tryd.prog Tryd.f3 [] false w args ∧ laidMetH Tryd.prog laidE w) ∧ sizedMet enc Tryd.prog Tryd.f3 (OpenSpec.ofChange Rows.entryApartSpec) false w args) (Rows.entryApartSpec.post enc Tryd.prog Tryd.f3 false true false false) := by
  refine law_tiedZ (tb := 4) Tryd.func3 (by kernel_rfl) shut rfl (by kernel_rfl) (by kernel_rfl) Tryd.underlying4 (by kernel_rfl) os started H enc
    (ChangeSpec.witness_shaped (enc := enc) (C := Tryd.checked) (os := os) (X := fun w _ => laidMetH Tryd.prog laidE w) false (World.laidAll Tryd.prog os laidE) #[.slice none 0 0, .int .u8 0, .int .u16 0, .int .u8 0] 8 (World.laidAll_os _ _ _) (World.shaped_of_ZipB (by kernel_rfl) (by kernel_rfl)) (by kernel_rfl) (by kernel_rfl) (by kernel_rfl) (by rw [MakeChecks.laidMetH_plain _ _ _ (by kernel_rfl)]; exact laidMet_laidAll _ (by kernel_rfl) (by kernel_rfl))) ?_
  intro W args ds ps g hmx hord
  rw [Tryd.params3] at g
  obtain ⟨a0, n0, c0, l0, vs0, ds0, q0, e0, hl0, hc0, hm0, hA0, hk0, hb0, g0_⟩ := Given.bytes_ g Tryd.underlying22 Tryd.underlying5 (by kernel_rfl) (by kernel_rfl)
  obtain ⟨a1, vs1, ds1, q1, e1, w1, g1_⟩ := Given.int_ g0_ Tryd.underlying5
  obtain ⟨a2, vs2, ds2, q2, e2, w2, g2_⟩ := Given.int_ g1_ Tryd.underlying23
  obtain ⟨a3, vs3, ds3, q3, e3, w3, g3_⟩ := Given.int_ g2_ Tryd.underlying5
  have gn := Given.nil_ g3_
  subst gn
  subst e3
  subst e2
  subst e1
  obtain rfl : args = #[.slice a0 n0 c0, .int .u8 a1, .int .u16 a2, .int .u8 a3] := by cases args; simp_all
  exact walk W a0 n0 c0 l0 hl0 hc0 hm0 hA0 hk0 hb0 a1 w1 a2 w2 a3 w3 hmx hord

theorem over : Rows.entryApartRow.holds Tryd.pinned (OpenSpec.ofChange Rows.entryApartSpec) :=
  OpenClaim.holds_of_wide 3 Tryd.f3 rfl rfl rfl rfl rfl rfl rfl ⟨rfl, rfl, rfl, rfl, rfl⟩ rfl rfl rfl rfl rfl (by kernel_rfl) Tryd.func3 (by kernel_rfl)
    (of_decide_eq_true (by kernel_rfl)) (by unfold Func.isWrapper; first | (rw [if_pos (by decide +kernel)]; kernel_rfl) | (rw [if_neg (by decide +kernel)]; exact ⟨rfl, rfl⟩))
    (fun os started H enc _ => lifted os started H enc)
theorem proved : Rows.EntryApartCardSaid :=
  Claim7.holds_tied_plain_at .later [] [.data, .data, .pinned] true (true, "12d72343f72c34282176dac0ec6eff0c4eb8010f7694e7ab2872cc3ee5813246") false
    over (fun _ h => by cases h) (by kernel_rfl) (fun _ h => by cases h) entryApart_row_tie rfl ⟨rfl, rfl⟩ (by kernel_rfl) rfl
    (fun f fn hf hfn => by
      obtain rfl : f = 3 := Option.some.inj ((show Tryd.prog.funcNamed "samovar/samovarlaw10.EntryApart" = some 3 by kernel_rfl).symm.trans hf) |>.symm
      obtain rfl : fn = Tryd.f3 := (Option.some.inj (Tryd.func3.symm.trans hfn)).symm
      exact ⟨by kernel_rfl, fun j t ht => by
        rw [Tryd.params3] at ht
        have hm : t ∈ [22, 5, 23, 5] := by simpa using Array.mem_of_getElem? ht
        have hall : ([22, 5, 23, 5].all fun u => !Tryd.prog.wantsStandIn u) = true := by kernel_rfl
        exact (show Tryd.prog.wantsStandIn t = false by simpa using List.all_eq_true.1 hall t hm)⟩)
    (by kernel_rfl)
end Go.Proofs.YtdcpibglbanchaaDoor.entryApart
