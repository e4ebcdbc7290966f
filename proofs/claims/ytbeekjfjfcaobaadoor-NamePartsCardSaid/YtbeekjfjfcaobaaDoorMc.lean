/- Names of classes and of members: contracts of the document's own plain and Class, and of both Members. Conditions: the text is no longer than 20000 bytes; the variable internal/bytealg.MaxLen has a value. -/
import Derived.Test.YtbeekjfjfcaobaaDoorMb
import Derived.Lib.SlBytesConst
set_option linter.unusedVariables false
set_option maxRecDepth 100000
namespace Go.Proofs.YtbeekjfjfcaobaaDoor
open Go.RowKit Go.Lib

theorem bs_lit (w : World) (t : TypeId) (l : List Int) (z : Nat × Nat) (hl : Bytes l) : Bs (w.alloc (.cells (l.map (Value.int .u8)).toArray t z)) (w.heap.size + 1) (some ⟨w.heap.size, 0, none⟩) l := by
  refine ⟨hl, fun hn => ⟨w.heap.size, 0, rfl, by omega, fun i hi => ?_⟩⟩
  have h := heap_alloc_new w (.cells (l.map (Value.int .u8)).toArray t z)
  rw [cell_of_row _ _ _ _ _ _ h]
  simp [hi]
def lit8 : List Int := [46, 59, 91, 92, 40, 41, 60, 62]
theorem plain_lit (x : UInt8) : plainU x = (lit8.all (fun v => decide (v ≠ (x.toNat : Int))) && (decide (32 < x.toNat) && decide (x.toNat ≠ 127))) := by
  have h : ∀ n : Nat, n < 256 → plainU n.toUInt8 = (lit8.all (fun v => decide (v ≠ ((n.toUInt8).toNat : Int))) && (decide (32 < (n.toUInt8).toNat) && decide ((n.toUInt8).toNat ≠ 127))) := by decide +kernel
  have := h x.toNat x.toNat_lt
  rwa [show x.toNat.toUInt8 = x from UInt8.toNat_inj.1 (by simp)] at this
set_option maxHeartbeats 4000000 in
theorem refPlain_is (x : UInt8) (w : World) : Calls Tryd.prog 27 #[.int .u8 (x.toNat : Nat)] w fun e w' => e = .returned (.bool (plainU x)) ∧ Below w.heap.size w w' := by
  have hP := plain_lit x
  have hcell : ∀ (j : Nat) (v : Int), lit8[j]? = some v → (w.alloc (.cells #[.int .u8 46, .int .u8 59, .int .u8 91, .int .u8 92, .int .u8 40, .int .u8 41, .int .u8 60, .int .u8 62] 5 (8, 9))).cell? ⟨w.heap.size, j, none⟩ = some (.int .u8 v) := fun j v hv => by
    have hB : Bs (w.alloc (.cells #[.int .u8 46, .int .u8 59, .int .u8 91, .int .u8 92, .int .u8 40, .int .u8 41, .int .u8 60, .int .u8 62] 5 (8, 9))) (w.heap.size + 1) (some ⟨w.heap.size, 0, none⟩) lit8 := bs_lit w 5 lit8 (8, 9) (by unfold lit8 Bytes; simp)
    obtain ⟨hj, hv2⟩ := List.getElem?_eq_some_iff.1 hv
    obtain ⟨b, off, h1, _, h3⟩ := hB.at_ hj
    injection h1 with h1
    injection h1 with h1 h2
    subst h1 h2
    rw [Nat.zero_add] at h3
    rw [h3, List.getD_eq_getElem?_getD, hv]; rfl
  have kc := fun (w : World) (C : Array Value) (n c : Nat) => Lib.run_convert_bytes_const (P := Tryd.prog) w 47 5 C n c Tryd.underlying47 Tryd.underlying5
  have HW := Lib.hid ((Below.refl w.heap.size w).alloc (Nat.le_refl _) (.cells #[.int .u8 46, .int .u8 59, .int .u8 91, .int .u8 92, .int .u8 40, .int .u8 41, .int .u8 60, .int .u8 62] 5 (8, 9)))
  have HP := Lib.hid hP
  have HC := Lib.hid hcell
  clear hP hcell
  go_enter Tryd.func27, Tryd.ntmps27
  go_wp2_with fail
  go_loopw [8] (fun iv wr => ∃ i : Nat, i ≤ 8 ∧ iv = .int .i64 i ∧ Hid (wr = w.alloc (.cells #[.int .u8 46, .int .u8 59, .int .u8 91, .int .u8 92, .int .u8 40, .int .u8 41, .int .u8 60, .int .u8 62] 5 (8, 9))) ∧ Hid ((lit8.take i).all (fun v => decide (v ≠ (x.toNat : Int))) = true)) (fun iv _ => 8 - (RowKit.intOf iv).toNat)
  case atStart => exact ⟨0, Nat.zero_le _, rfl, Lib.hid rfl, Lib.hid rfl⟩
  case round =>
    obtain ⟨i, hi, rfl, HWr, HA⟩ := hrel
    by_cases hlt : i < 8
    · have hlt' : i < lit8.length := hlt
      obtain ⟨v, hv⟩ : ∃ v, lit8[i] = v := ⟨_, rfl⟩
      have hg : lit8[i]? = some v := by rw [← hv]; exact List.getElem?_eq_getElem hlt'
      have hc1 := HC.out i v hg
      rw [← HWr.out] at hc1
      by_cases he : v = (x.toNat : Int)
      · have hcut : lit8.all (fun v => decide (v ≠ (x.toNat : Int))) = false := all_cut hlt' (by rw [hv]; simp [he])
        have HX := Lib.hid hcut
        have t1 : ((x.toNat : Int) == v) = true := by rw [he]; simp
        clear hcut hg hv he
        go_wp2_with fail
        go_ret
        exact ⟨by rw [HP.out, HX.out]; rfl, by rw [HWr.out]; exact HW.out⟩
      · have hgo : (lit8.take (i + 1)).all (fun v => decide (v ≠ (x.toNat : Int))) = true := by rw [all_take hlt' HA.out, hv]; simp [he]
        have HX := Lib.hid hgo
        have t1 : ((x.toNat : Int) == v) = false := by rw [beq_eq_false_iff_ne]; exact fun h => he h.symm
        clear hgo hg hv he
        go_wp2_with fail
        go_roundw
        case rel => exact ⟨i + 1, by omega, by go_num, HWr, HX⟩
        case measure => simp [RowKit.intOf]; omega
    · obtain rfl : 8 = i := by omega
      have hall : lit8.all (fun v => decide (v ≠ (x.toNat : Int))) = true := HA.out
      rw [hall, Bool.true_and] at HP
      by_cases h32 : 32 < x.toNat
      · have t1 : decide ((x.toNat : Int) > 32) = true := by simp; omega
        by_cases h127 : x.toNat = 127
        · have t2 : ((x.toNat : Int) != 127) = false := by rw [h127]; rfl
          have HX := Lib.hid (show plainU x = false by rw [HP.out, h127]; rfl)
          clear hall h127 HP
          go_wp2_with fail
          go_ret
          exact ⟨by rw [HX.out]; rfl, by rw [HWr.out]; exact HW.out⟩
        · have t2 : ((x.toNat : Int) != 127) = true := by simp; omega
          have HX := Lib.hid (show plainU x = true by rw [HP.out]; simp [h32, h127])
          clear hall h127 HP
          go_wp2_with fail
          go_ret
          exact ⟨by rw [HX.out]; rfl, by rw [HWr.out]; exact HW.out⟩
      · have t1 : decide ((x.toNat : Int) > 32) = false := by simp; omega
        have HX := Lib.hid (show plainU x = false by rw [HP.out]; simp [h32])
        clear hall HP
        go_wp2_with fail
        go_ret
        exact ⟨by rw [HX.out]; rfl, by rw [HWr.out]; exact HW.out⟩
set_option maxHeartbeats 8000000 in
theorem refClass_is (s : ByteArray) (hs : s.size ≤ 20000) (w : World) : Calls Tryd.prog 10 #[.string s] w fun e w' => e = .returned (.bool (classB s.data.toList)) ∧ Below w.heap.size w w' := by
  have hl := Lib.size_eq s
  by_cases h0 : s.size < 1
  · have t1 : decide ((s.size : Int) < 1) = true := by simp; omega
    have hn : s.data.toList = [] := List.eq_nil_of_length_eq_zero (by omega)
    have HX := Lib.hid (show classB s.data.toList = false by rw [hn]; exact class_nil)
    clear hn hl h0
    go_enter Tryd.func10, Tryd.ntmps10
    go_wp2_with fail
    go_ret
    exact ⟨by rw [HX.out]; rfl, Below.refl _ _⟩
  · have t1 : decide ((s.size : Int) < 1) = false := by simp; omega
    by_cases h58 : 58 < s.size
    · have t2 : decide ((s.size : Int) > 58) = true := by simp; omega
      have HX := Lib.hid (class_long (l := s.data.toList) (by omega))
      clear hl h0 h58
      go_enter Tryd.func10, Tryd.ntmps10
      go_wp2_with fail
      go_ret
      exact ⟨by rw [HX.out]; rfl, Below.refl _ _⟩
    · have t2 : decide ((s.size : Int) > 58) = false := by simp; omega
      rw [← rC_class (by omega)]
      have HL := Lib.hid hl
      clear hl h58 h0
      go_enter Tryd.func10, Tryd.ntmps10
      go_wp2_with fail
      go_loopw [3, 4] (fun nv iv wr => ∃ n i : Nat, i ≤ s.size ∧ n ≤ i ∧ nv = .int .i64 n ∧ iv = .int .i64 i ∧ Hid (Below w.heap.size w wr) ∧ Hid (rC s.data.toList 0 = rC (s.data.toList.drop i) n)) (fun _ iv _ => s.size - (RowKit.intOf iv).toNat)
      case atStart => exact ⟨0, 0, Nat.zero_le _, Nat.zero_le _, rfl, rfl, Lib.hid (Below.refl _ _), Lib.hid (by rw [List.drop_zero])⟩
      case round =>
        obtain ⟨n, i, hi, hni, rfl, rfl, HW, HR⟩ := hrel
        by_cases hlt : i < s.size
        · obtain ⟨x, hx⟩ : ∃ x : UInt8, s[i]'hlt = x := ⟨_, rfl⟩
          obtain ⟨hget, hdrop⟩ := get_drop s hlt hx
          rw [hdrop] at HR
          have hlt2 : (i : Int) < s.size := by omega
          clear hget hdrop
          by_cases h47 : x = 47
          · subst h47
            by_cases hn : n = 0
            · subst hn
              have HX := Lib.hid (show rC s.data.toList 0 = false by rw [HR.out, rC, if_pos rfl]; rfl)
              clear HR
              go_wp2_with fail
              go_ret
              exact ⟨by rw [HX.out]; rfl, HW.out⟩
            · have HX := Lib.hid (show rC s.data.toList 0 = rC (s.data.toList.drop (i + 1)) 0 by rw [HR.out, rC, if_pos rfl, decide_eq_true hn, Bool.true_and])
              have t3 : ((n : Int) == 0) = false := by rw [beq_eq_false_iff_ne]; omega
              clear HR
              go_wp2_with fail
              go_roundw
              case rel => exact ⟨0, i + 1, by omega, Nat.zero_le _, rfl, by go_num, HW, HX⟩
              case measure => simp [RowKit.intOf]; omega
          · have t3 : ((x.toNat : Int) == 47) = false := by
              rw [beq_eq_false_iff_ne]; intro h
              exact h47 (UInt8.toNat_inj.1 (by show x.toNat = 47; omega))
            have hpl := refPlain_is x wr
            have hr : rC (x :: s.data.toList.drop (i + 1)) n = (plainU x && rC (s.data.toList.drop (i + 1)) (n + 1)) := by rw [rC, if_neg h47]
            have HX := Lib.hid (HR.out.trans hr)
            clear HR hr h47
            cases hP : plainU x with
            | false =>
              rw [hP] at hpl
              have HP := Lib.hid hP
              clear hP
              go_wp2_with fail
              refine hpl.mono ?_
              rintro e w1 ⟨rfl, hb1⟩
              have H1 := Lib.hid (below_next HW.out (Nat.le_refl _) hb1)
              clear hpl hb1
              go_wp2_with fail
              go_ret
              exact ⟨by rw [HX.out, HP.out]; rfl, H1.out⟩
            | true =>
              rw [hP] at hpl
              have HP := Lib.hid hP
              clear hP
              go_wp2_with fail
              refine hpl.mono ?_
              rintro e w1 ⟨rfl, hb1⟩
              have H1 := Lib.hid (below_next HW.out (Nat.le_refl _) hb1)
              clear hpl hb1
              go_wp2_with fail
              go_roundw
              case rel => exact ⟨n + 1, i + 1, by omega, by omega, by go_num, by go_num, H1, Lib.hid (by rw [HX.out, HP.out, Bool.true_and])⟩
              case measure => simp [RowKit.intOf]; omega
        · obtain rfl : s.size = i := by omega
          have hend : s.data.toList.drop s.size = [] := List.drop_eq_nil_of_le (by rw [HL.out]; exact Nat.le_refl _)
          rw [hend] at HR
          have HX := Lib.hid (show rC s.data.toList 0 = decide (0 < n) by rw [HR.out, rC])
          clear hend HR
          go_wp2_with fail
          go_ret
          exact ⟨by rw [HX.out]; rfl, HW.out⟩
end Go.Proofs.YtbeekjfjfcaobaaDoor
