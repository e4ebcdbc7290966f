/- What strings.IndexRune and ContainsAny answer of the two signs that no name has, whatever the text: contracts. Condition: the text is short. -/
import Derived.Test.YtimojfkpcmphfaaDoorGa
import Derived.Test.YtimojfkpcmphfaaDoorShelf
import Derived.Laws.RangeAny
set_option linter.unusedVariables false
set_option maxRecDepth 100000
namespace Go.Proofs.YtimojfkpcmphfaaDoor
open Go.RowKit Go.Lib

def two : ByteArray := ⟨#[0, 92]⟩
theorem enc_high {r : Int} (h : 128 ≤ r) : 2 ≤ (Utf8.encode r).size ∧ (Utf8.encode r).size ≤ 4 ∧ ∃ y : UInt8, (Utf8.encode r).data.toList[(Utf8.encode r).size - 1]? = some y ∧ 128 ≤ y.toNat := by
  unfold Utf8.encode
  have hc : 128 ≤ (if Utf8.valid r then r.toNat else Utf8.runeError) := by
    split
    · omega
    · decide
  generalize (if Utf8.valid r then r.toNat else Utf8.runeError) = c at *
  simp only
  rw [if_neg (by omega)]
  split
  · refine ⟨Nat.le_refl 2, by show 2 ≤ 4; omega, _, rfl, ?_⟩
    simp; omega
  · split
    · refine ⟨by show 2 ≤ 3; omega, by show 3 ≤ 4; omega, _, rfl, ?_⟩
      simp; omega
    · refine ⟨by show 2 ≤ 4; omega, Nat.le_refl 4, _, rfl, ?_⟩
      simp; omega
theorem conv_rune (r : Int) (W : World) : (convert 21 9 (.int .i32 r)).run Tryd.prog W = .ok (.string (Utf8.encode r)) W := by
  simp [convert, run_underlying Tryd.underlying21, run_underlying Tryd.underlying9, Conv.intToString]
theorem iter_below (w : World) (s : ByteArray) (i : Nat) : Below w.heap.size w (w.iter s i) := by
  unfold World.iter
  exact (Below.refl _ _).alloc (Nat.le_refl _) _
set_option maxHeartbeats 8000000 in
theorem irHigh (r : Int) (h : 128 ≤ r ∧ r ≤ 2147483647) (w : World) : Calls Tryd.prog 46 #[.string two, .int .i32 r] w fun e w' => e = .returned (.int .i64 (-1)) ∧ Below w.heap.size w w' := by
  have hn : ¬ (r < 128) := by omega
  have h0 : (0 : Int) ≤ r := by omega
  by_cases he : r = 65533
  · subst he
    go_enter Tryd.func46, Tryd.ntmps46
    go_wp2_with fail
    go_loopg [5, 6] 2 (fun g _ _ wx => ∃ i : Nat, i + g = 2 ∧ wx = w.iter two i)
    case atStart => exact ⟨0, rfl, rfl⟩
    case round =>
      obtain ⟨i, hig, rfl⟩ := hrel
      cases gk with
      | zero =>
        obtain rfl : i = 2 := by omega
        have hnx := run_next_end (P := Tryd.prog) w two 2
        have hnx := fun ty => hnx ty (by decide)
        go_wp2_with fail
        go_ret
        exact ⟨rfl, iter_below w _ _⟩
      | succ g =>
        have hi : i < two.size := by show i < 2; omega
        have hlow : (two[i]'hi).toNat < 128 := by
          rcases (by omega : i = 0 ∨ i = 1) with rfl | rfl
          · exact (by decide : (two[0]'(by decide)).toNat < 128)
          · exact (by decide : (two[1]'(by decide)).toNat < 128)
        have hnx := fun ty => run_next_ascii (P := Tryd.prog) w two i ty hi hlow
        have hne : (((two[i]'hi).toNat : Int) == 65533) = false := by simp; omega
        generalize two[i]'hi = x at *
        go_wp2_with fail
        go_roundg g
        case measure => omega
        case rel => exact ⟨i + 1, by omega, rfl⟩
  · have t1 : (r == 65533) = false := by simp [he]
    have hv := Tryd.utf8_ValidRune r w
    cases hvb : Lib.validRune r with
    | false =>
      rw [hvb] at hv
      clear hvb he
      go_enter Tryd.func46, Tryd.ntmps46
      go_wp2_with fail
      refine hv.mono ?_
      rintro e w' ⟨rfl, rfl⟩
      clear hv
      go_wp2_with fail
      go_ret
      exact ⟨rfl, Below.refl _ _⟩
    | true =>
      rw [hvb] at hv
      clear hvb he
      have hcv := fun W => conv_rune r W
      obtain ⟨e1, e2, y, e3, e4⟩ := enc_high h.1
      generalize Utf8.encode r = rs at *
      by_cases h2 : rs.size = 2
      · rw [h2] at e3
        have e3' : rs.data.toList[1]? = some y := e3
        have i2 : IntKind.i64.wrap 2 = 2 := by decide
        have hr1 : 128 ≤ (rs[1]'(by omega)).toNat := by
          have := Lib.data_getElem? rs 1 (by omega)
          rw [e3'] at this
          injection this with this
          rw [← this]; exact e4
        have q1 : (two[1]'(by decide)).toNat = 92 := by decide
        have ib0 : ∀ (W : World) (cc : Int), Calls Tryd.prog 59 #[.string ByteArray.empty, .int .u8 cc] W fun e w' => e = .returned (.int .i64 (-1)) ∧ W = w' := fun W cc => (Tryd.strings_IndexByte ByteArray.empty cc W).mono fun e w' ⟨h1, h2⟩ => ⟨h1, h2.symm⟩
        have hsl : ∀ W, (Instr.sliceAt 9 (.string two) (some (.int .i64 2)) none none).run Tryd.prog W = .ok (.string ByteArray.empty) W := fun W => by kernel_rfl
        have hsl2 : ∀ W, (Instr.slice 9 (.string two) (some (.int .i64 2)) none none).run Tryd.prog W = .ok (.string ByteArray.empty) W := fun W => by kernel_rfl
        clear e3 e1 e2
        go_enter Tryd.func46, Tryd.ntmps46
        go_wp2_with fail
        refine hv.mono ?_
        rintro e w' ⟨rfl, hw⟩
        rw [hw]
        clear hv hw
        go_wp2_with fail
        go_step3
        go_wp2_with fail
        go_loopw [9, 10] (fun i f wr => i = .int .i64 1 ∧ f = .int .i64 0 ∧ wr = w) (fun _ _ _ => 0)
        case atStart => exact ⟨rfl, rfl, rfl⟩
        case round =>
          obtain ⟨rfl, rfl, rfl⟩ := hrel
          have hne : ((92 : Int) != (y.toNat : Int)) = true := by simp; omega
          go_wp2_with fail
          go_step3
          go_wp2_with fail
          go_quiet (fail)
          go_wp2_with fail
          go_quiet ((go_at_call 59; first | exact q_left2 (ib0 _ _) | exact q_left3 (ib0 _ _)))
          go_wp2_with fail
          refine (show bodyPost Tryd.prog Tryd.f46 (fun e w'' => e = .returned (.int .i64 (-1)) ∧ Below wr.heap.size wr w'') .ret _ _ from ?_)
          go_ret
          exact ⟨rfl, low_drewN (Below.refl _ _) _⟩
      · have hd : decide ((rs.size : Int) - 1 < 2) = false := by simp; omega
        go_enter Tryd.func46, Tryd.ntmps46
        go_wp2_with fail
        refine hv.mono ?_
        rintro e w' ⟨rfl, hw⟩
        rw [hw]
        clear hv hw
        go_wp2_with fail
        go_step3
        go_wp2_with fail
        go_loopw [9, 10] (fun i f wr => i = .int .i64 ((rs.size : Int) - 1) ∧ f = .int .i64 0 ∧ wr = w) (fun _ _ _ => 0)
        case atStart => exact ⟨rfl, rfl, rfl⟩
        case round =>
          obtain ⟨rfl, rfl, rfl⟩ := hrel
          have hd2 : ¬ ((rs.size : Int) - 1 < 2) := by omega
          go_wp2_with fail
          go_ret
          exact ⟨rfl, Below.refl _ _⟩
end Go.Proofs.YtimojfkpcmphfaaDoor
