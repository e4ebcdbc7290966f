/- No bytes are no archive: contracts of end and Directory of nothing, Find in nothing. Condition: none. -/
import Derived.Test.YtdcpibglbanchaaDoorAa
set_option linter.unusedVariables false
set_option maxRecDepth 100000
namespace Go.Proofs.YtdcpibglbanchaaDoor
open Go.RowKit Go.Maps Go.ChangeMaps

theorem endPlaceNil {w : World} {g : Nat} {x1 x2 x3 x4 x5 x6 : Value} (h : w.heap[g]? = some (.cells #[.slice none 0 0, x1, x2, x3, x4, x5, x6] 42 (0, 0))) :
    Calls Tryd.prog 17 #[.pointer (some ⟨g, 0, none⟩)] w fun e w' => e = .returned (.tuple #[.int .i64 0, .bool false]) ∧ w = w' := by
  have c0 : w.cell? ⟨g, 0, none⟩ = some (.slice none 0 0) := by rw [blk_cell h]; rfl
  go_enter Tryd.func17, Tryd.ntmps17
  go_wp2_with fail
  go_loopw [4, 5, 15] (fun v4 v5 i wr => v4 = .int .i64 0 ∧ v5 = .int .i64 0 ∧ i = .int .i64 0 ∧ w = wr) (fun _ _ _ _ => 0)
  case atStart => exact ⟨rfl, rfl, rfl, rfl⟩
  case round =>
    obtain ⟨rfl, rfl, rfl, rfl⟩ := hrel
    go_wp2_with fail
    go_ret2
    exact ⟨rfl, rfl⟩
theorem endNil {w : World} {g : Nat} {x1 x2 x3 x4 x5 x6 : Value} (h : w.heap[g]? = some (.cells #[.slice none 0 0, x1, x2, x3, x4, x5, x6] 42 (0, 0))) :
    Calls Tryd.prog 10 #[.pointer (some ⟨g, 0, none⟩)] w fun e w' => e = .returned (.int .i64 9) ∧ w = w' := by
  have hp := endPlaceNil h
  clear h
  go_enter Tryd.func10, Tryd.ntmps10
  go_wp2_with fail
  refine hp.mono ?_
  rintro e w' ⟨rfl, rfl⟩
  go_wp2_with fail
  go_ret
  exact ⟨rfl, rfl⟩
theorem dirNil (w : World) : Calls Tryd.prog 5 #[.slice none 0 0] w fun e w' => e = .returned (.tuple #[.slice none 0 0, .int .i64 9]) ∧ Below w.heap.size w w' := by
  have hmm := @run_makeMap Tryd.prog
  have hsg := sigs_is w
  go_enter Tryd.func5, Tryd.ntmps5
  go_wp2_with fail
  refine hsg.mono ?_
  rintro e w1 ⟨k, rfl, hm, hb1⟩
  have H1 := Lib.hid hb1
  clear hsg hm hb1
  have hnew := heap_alloc_new (w1.alloc (Obj.map #[] 0)) (.cells #[.slice none 0 0, .map (some w.heap.size), .int .i64 0, .int .i64 0, .int .i64 0, .map (some w1.heap.size), .slice none 0 0] 42)
  rw [show (w1.alloc (Obj.map #[] 0)).heap.size = w1.heap.size + 1 by simp] at hnew
  have hen := endNil hnew
  have hbl := ((Below.refl w1.heap.size w1).alloc (Nat.le_refl _) (Obj.map #[] 0)).alloc (by simp) (.cells #[.slice none 0 0, .map (some w.heap.size), .int .i64 0, .int .i64 0, .int .i64 0, .map (some w1.heap.size), .slice none 0 0] 42)
  have H2 := Lib.hid (below_next H1.out (Nat.le_refl _) hbl)
  clear hnew hbl
  go_wp2_with fail
  refine hen.mono ?_
  rintro e w2 ⟨rfl, rfl⟩
  clear hen
  go_wp2_with fail
  go_ret2
  exact ⟨rfl, H2.out⟩
theorem findNil (w : World) (s : ByteArray) : Calls Tryd.prog 6 #[.slice none 0 0, .string s] w fun e w' => e = .returned (.tuple #[.slice none 0 0, .int .i64 9]) ∧ Below w.heap.size w w' := by
  have hd := dirNil w
  go_enter Tryd.func6, Tryd.ntmps6
  go_wp2_with fail
  refine hd.mono ?_
  rintro e w1 ⟨rfl, hb1⟩
  have H1 := Lib.hid hb1
  clear hd hb1
  go_wp2_with fail
  go_ret2
  exact ⟨rfl, H1.out⟩
end Go.Proofs.YtdcpibglbanchaaDoor
