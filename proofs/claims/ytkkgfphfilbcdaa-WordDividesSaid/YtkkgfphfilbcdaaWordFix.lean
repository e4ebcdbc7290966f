/- The calls whose answers the document fixes, for layer 1, answer so; and what the laws' own helpers compute. No condition. -/
import Derived.Test.YtkkgfphfilbcdaaWordInt
import Derived.Test.YtkkgfphfilbcdaaWordCut
set_option linter.unusedVariables false
namespace Go.Proofs.Ytkkgfphfilbcdaa
open Go.RowKit

theorem fix1 : WI 96 2147483647 1 = (-2147483648, 0) := by simp [WI, R32, wrap32]
theorem fix2 : WI 108 1 4294967296 = (0, 35) := by simp [WI, R32, wrap32]
theorem fix3 : WL 125 (-1) 60 = (15, 0) := by rw [wl_bare]; simp [wrap64]
theorem fix4 : HO 155 4294967295 7 = (true, 0) := by simp [HO, HOb, wrap32]
theorem fix5 : CU 66 200 = -56 := by simp [CU]
theorem fix6 : CMP (-1) 1 = -1 := by simp [CMP]

set_option maxHeartbeats 1000000 in
theorem wordFixed (w : World) :
    Calls Try.prog 15 #[] w fun e w' => e = .returned (.bool true) ∧ w = w' := by
  have f1 := fix1
  have f2 := fix2
  have f3 := fix3
  have f4 := fix4
  have f5 := fix5
  have f6 := fix6
  go_enter Try.func15, Try.ntmps15
  go_wp2_with (first | (go_at_call 16; refine (wordInt _ _ _ _).mono ?_; rintro e w' ⟨rfl, rfl⟩) | (go_at_call 18; refine (wordLong _ _ _ _).mono ?_; rintro e w' ⟨rfl, rfl⟩) | (go_at_call 24; refine (wordHolds _ _ _ (by decide) _).mono ?_; rintro e w' ⟨rfl, rfl⟩) | (go_at_call 20; refine (wordCut _ _ (by decide) _).mono ?_; rintro e w' ⟨rfl, rfl⟩) | (go_at_call 22; refine (wordCmp _ _ _).mono ?_; rintro e w' ⟨rfl, rfl⟩))
  go_ret
  exact ⟨rfl, rfl⟩

/-- what the laws' helper 'reckon' answers -/
def RK (l : Bool) (op a b : Int) : Int := if l then (WL op a b).1 else (WI op a b).1
theorem lawReckonI (op a b : Int) (w : World) :
    Calls Try.prog 27 #[.int .i64 op, .int .i64 a, .int .i64 b, .bool false] w fun e w' => e = .returned (.int .i64 (RK false op a b)) ∧ w = w' := by
  go_enter Try.func27, Try.ntmps27
  go_wp2_with (go_at_call 16; refine (wordInt _ _ _ _).mono ?_; rintro e w' ⟨rfl, rfl⟩)
  go_ret
  exact ⟨rfl, rfl⟩
theorem lawReckonL (op a b : Int) (w : World) :
    Calls Try.prog 27 #[.int .i64 op, .int .i64 a, .int .i64 b, .bool true] w fun e w' => e = .returned (.int .i64 (RK true op a b)) ∧ w = w' := by
  go_enter Try.func27, Try.ntmps27
  go_wp2_with (go_at_call 18; refine (wordLong _ _ _ _).mono ?_; rintro e w' ⟨rfl, rfl⟩)
  go_ret
  exact ⟨rfl, rfl⟩
theorem lawReckon (l : Bool) (op a b : Int) (w : World) :
    Calls Try.prog 27 #[.int .i64 op, .int .i64 a, .int .i64 b, .bool l] w fun e w' => e = .returned (.int .i64 (RK l op a b)) ∧ w = w' := by
  cases l
  · exact lawReckonI op a b w
  · exact lawReckonL op a b w
end Go.Proofs.Ytkkgfphfilbcdaa
