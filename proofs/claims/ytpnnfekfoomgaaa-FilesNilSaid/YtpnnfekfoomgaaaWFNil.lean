/- The walk of the law FilesNil: it returns true and turns nothing that was there. No condition. -/
import Derived.Test.YtpnnfekfoomgaaaFix8
set_option linter.unusedVariables false
set_option maxRecDepth 100000
namespace Go.Proofs.Ytpnnfekfoomgaaa
open Go.RowKit Go.Maps Go.ChangeMaps

theorem filesSizeNil (s : ByteArray) (w : World) : Calls Try.prog 14 #[.pointer none, .string s] w fun e w' => e = .returned (.tuple #[.int .i64 0, .int .i64 21]) ∧ w' = w := by
  go_enter Try.func14, Try.ntmps14
  go_wp2_with fail
  go_ret2
  exact ⟨rfl, rfl⟩
theorem filesNamesNil (w : World) : Calls Try.prog 15 #[.pointer none] w fun e w' => e = .returned (.slice none 0 0) ∧ w' = w := by
  go_enter Try.func15, Try.ntmps15
  go_wp2_with fail
  go_ret
  exact ⟨rfl, rfl⟩
theorem filesReadsNil (w : World) : Calls Try.prog 13 #[.pointer none] w fun e w' => e = .returned (.int .i64 0) ∧ w' = w := by
  go_enter Try.func13, Try.ntmps13
  go_wp2_with fail
  go_ret
  exact ⟨rfl, rfl⟩
set_option maxHeartbeats 4000000 in
theorem filesnil_walk (w : World) (s : ByteArray) (at_ n : Int) :
    Calls Try.prog 5 #[.string s, .int .i64 at_, .int .i64 n] w fun e w' => e = .returned (.bool true) ∧ Below w.heap.size w w' := by
  have hfx := fixed8 w
  go_enter Try.func5, Try.ntmps5
  go_wp2_with fail
  refine hfx.mono ?_
  rintro e w1 ⟨rfl, hb1⟩
  have H1 := Lib.hid hb1
  clear hfx hb1
  have h1 := filesSizeNil s w1
  have h2 := filesReadNil s at_ n w1
  have h3 := filesPutNil s (.slice none 0 0) w1
  have h4 := filesFailNil n w1
  have h5 := filesReadsNil w1
  have h6 := filesNamesNil w1
  go_wp2_with fail
  refine h1.mono ?_
  rintro e w' ⟨rfl, hw'⟩
  rw [hw']
  clear hw' w' h1
  go_wp2_with fail
  refine h2.mono ?_
  rintro e w' ⟨rfl, hw'⟩
  rw [hw']
  clear hw' w' h2
  go_wp2_with fail
  refine h3.mono ?_
  rintro e w' ⟨rfl, hw'⟩
  rw [hw']
  clear hw' w' h3
  go_wp2_with fail
  refine h4.mono ?_
  rintro e w' ⟨rfl, hw'⟩
  rw [hw']
  clear hw' w' h4
  go_wp2_with fail
  refine h5.mono ?_
  rintro e w' ⟨rfl, hw'⟩
  rw [hw']
  clear hw' w' h5
  go_wp2_with fail
  refine h6.mono ?_
  rintro e w' ⟨rfl, hw'⟩
  rw [hw']
  clear hw' w' h6
  go_wp2_with fail
  go_ret
  exact ⟨rfl, H1.out⟩
end Go.Proofs.Ytpnnfekfoomgaaa
