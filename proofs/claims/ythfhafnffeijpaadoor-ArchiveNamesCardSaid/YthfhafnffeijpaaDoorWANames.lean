/- The law ArchiveNames: walk. Condition: the variable internal/bytealg.MaxLen has a value. -/
import Derived.Test.YthfhafnffeijpaaDoorFix9
import Derived.Test.YthfhafnffeijpaaDoorTiedA
set_option linter.unusedVariables false
set_option maxRecDepth 100000
namespace Go.Proofs.YthfhafnffeijpaaDoor
open Go.RowKit Go.Maps Go.ChangeMaps

theorem One.str {H : Type} {enc : TypeId × Value → H} {K : Option Nat} {W : World} {v : Value} {d : DataW H} {p : List MemPlace} (h : One H enc K W 9 v d p) : ∃ s, v = .string s := by
  obtain ⟨base, hv⟩ := h.size
  have hu := Tryd.underlying9
  cases v with
  | string s => exact ⟨s, rfl⟩
  | _ => unfold Value.okWide at hv; rw [hu] at hv; first | exact hv.elim | cases hv | simp at hv
set_option maxHeartbeats 2000000 in
theorem archivenames_walk (w : World) (s : ByteArray) (hmx : Mx w) : Calls Tryd.prog 8 #[.string s] w fun e w' => e = .returned (.bool true) ∧ Below w.heap.size w w' := by
  have hf := fixed9 w hmx
  go_enter Tryd.func8, Tryd.ntmps8
  go_wp2_with fail
  refine hf.mono ?_
  rintro e w1 ⟨rfl, hb1⟩
  have H1 := Lib.hid hb1
  have hn := name_is s w1 (hmx.below hb1)
  clear hf hb1
  go_wp2_with fail
  refine hn.mono ?_
  rintro e w2 ⟨rfl, hb2⟩
  have H2 := Lib.hid (below_next H1.out (Nat.le_refl _) hb2)
  have hr := refName_is s w2
  clear hn hb2
  generalize nameB s = B at *
  go_wp2_with fail
  refine hr.mono ?_
  rintro e w3 ⟨rfl, rfl⟩
  clear hr
  have ht : (B == B) = true := by simp
  go_wp2_with fail
  go_ret
  exact ⟨rfl, H2.out⟩
end Go.Proofs.YthfhafnffeijpaaDoor
