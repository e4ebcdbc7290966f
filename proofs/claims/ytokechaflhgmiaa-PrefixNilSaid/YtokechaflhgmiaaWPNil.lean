/- The walk of the law PrefixNil: it returns true and turns nothing that was there. Condition: the number fits its kind. -/
import Derived.Test.YtokechaflhgmiaaFix5
set_option linter.unusedVariables false
namespace Go.Proofs.Ytokechaflhgmiaa
open Go.RowKit

theorem f11_err : errN [1, 1] false = 0 := by decide +kernel
set_option maxHeartbeats 1000000 in
theorem prefixnil_walk (w : World) (s : Int) : Calls Try.prog 7 #[.int .i64 s] w fun e w' => e = .returned (.bool true) ∧ Below w.heap.size w w' := by
  go_enter Try.func7, Try.ntmps7
  go_wp2_with fail
  refine (fixed5 _).mono ?_
  rintro e w1 ⟨rfl, hw1⟩
  go_wp2_with fail
  refine (wordNil _ _).mono ?_
  rintro e w' ⟨rfl, rfl⟩
  go_wp2_with fail
  refine (bitNew (some ⟨w1.heap.size, 0, none⟩) 1 1 [1] rfl (by decide) _ (lit_bytes w1 5 [1] (by simp [Bytes]))).mono ?_
  rintro e w3 ⟨gr, a3, c3, rfl, hg3, hh3, ho3, hl3, hb3⟩
  have hw3 := below_next hw1 (Nat.le_refl _) (((Below.refl w1.heap.size w1).alloc (Nat.le_refl _) _).trans (hb3.mono (by simp)))
  clear hg3 hh3 ho3 hl3 hb3 hw1
  go_wp2_with fail
  refine (nextNil _ _).mono ?_
  rintro e w' ⟨rfl, rfl⟩
  go_wp2_with fail
  refine (new_is (some ⟨w3.heap.size, 0, none⟩) 2 2 [1, 1] rfl (by decide) (lit_ints w3 3 [1, 1] (by decide)) false).mono ?_
  intro e w5 hnew
  obtain ⟨hb5, g5, rfl, hp5⟩ := newOk hnew f11_err
  have hw5 := below_next hw3 (Nat.le_refl _) (((Below.refl w3.heap.size w3).alloc (Nat.le_refl _) _).trans (hb5.mono (by simp)))
  clear hnew hb5 hw3 hp5
  go_wp2_with fail
  refine (nextNone _ _).mono ?_
  rintro e w' ⟨rfl, rfl⟩
  go_wp2_with fail
  go_ret
  exact ⟨rfl, hw5⟩
end Go.Proofs.Ytokechaflhgmiaa
