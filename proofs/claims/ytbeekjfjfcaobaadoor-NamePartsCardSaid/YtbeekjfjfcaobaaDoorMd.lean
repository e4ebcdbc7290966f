/- Names of members, slots: contracts of package name's Member and Slots and of the document's own. Conditions: the text is no longer than 20000 bytes. -/
import Derived.Test.YtbeekjfjfcaobaaDoorMc
set_option linter.unusedVariables false
set_option maxRecDepth 100000
namespace Go.Proofs.YtbeekjfjfcaobaaDoor
open Go.RowKit Go.Lib

def initL : List UInt8 := [60, 105, 110, 105, 116, 62]
def clinitL : List UInt8 := [60, 99, 108, 105, 110, 105, 116, 62]
def tailB (l : List UInt8) : Bool := decide (l ≠ []) && decide (l.length ≤ 64) && l.all plainU && decide (indexByte l 47 = -1)
theorem index47 : ∀ l : List UInt8, decide (indexByte l 47 = -1) = l.all (fun c => !(c == 47))
  | [] => rfl
  | b :: l => by
    have ih := index47 l
    have hge := indexByte_ge l 47
    unfold indexByte
    rw [List.all_cons, ← ih]
    by_cases hb : (b == 47) = true
    · rw [if_pos hb, hb]; rfl
    · rw [if_neg hb]
      have hb' : (b == 47) = false := by simpa using hb
      rw [hb', Bool.not_false, Bool.true_and]
      by_cases e : (indexByte l 47 == -1) = true
      · rw [if_pos e]
        have : indexByte l 47 = -1 := by simpa using e
        rw [this]
      · rw [if_neg e]
        have : indexByte l 47 ≠ -1 := by simpa using e
        rw [decide_eq_false this, decide_eq_false (by omega)]
theorem all_two : ∀ l : List UInt8, (l.all plainU && l.all (fun c => !(c == 47))) = l.all (fun c => !(c == 47 || !plainU c))
  | [] => rfl
  | b :: l => by
    have ih := all_two l
    simp only [List.all_cons]
    rw [← ih]
    cases plainU b <;> cases (b == 47) <;> cases l.all plainU <;> simp
def okC (c : UInt8) : Bool := !(c == 47 || !plainU c)
theorem tailB_is (l : List UInt8) : tailB l = (l.all okC && (decide (1 ≤ l.length) && decide (l.length ≤ 64))) := by
  unfold tailB
  rw [index47, Bool.and_assoc, all_two]
  have : decide (l ≠ []) = decide (1 ≤ l.length) := by
    cases l <;> simp
  rw [this]
  show ((decide (1 ≤ l.length) && decide (l.length ≤ 64)) && l.all okC) = _
  rw [Bool.and_comm]
theorem member_first {l : List UInt8} {m : Bool} (h : m = true ∧ (l = initL ∨ l = clinitL)) : memberB l m = true := by
  obtain ⟨rfl, rfl | rfl⟩ := h <;> rfl
theorem member_tail {l : List UInt8} {m : Bool} (h : ¬(m = true ∧ (l = initL ∨ l = clinitL))) : memberB l m = tailB l ∧ (m = false ∨ (m = true ∧ (l == initL) = false ∧ (l == clinitL) = false)) := by
  cases m with
  | false => exact ⟨by unfold memberB; rw [Bool.false_and, Bool.false_or]; rfl, .inl rfl⟩
  | true =>
    have h1 : ¬ l = initL := fun e => h ⟨rfl, .inl e⟩
    have h2 : ¬ l = clinitL := fun e => h ⟨rfl, .inr e⟩
    refine ⟨?_, .inr ⟨rfl, by rw [beq_eq_false_iff_ne]; exact h1, by rw [beq_eq_false_iff_ne]; exact h2⟩⟩
    unfold memberB
    unfold initL at h1
    unfold clinitL at h2
    rw [decide_eq_false h1, decide_eq_false h2]
    rfl
theorem indexSlash (s : ByteArray) (w : World) : Calls Tryd.prog 28 #[.string s, .int .u8 47] w fun e w' => e = .returned (.int .i64 (indexByte s.data.toList 47)) ∧ w' = w := Tryd.strings_IndexByte s 47 w
set_option maxHeartbeats 4000000 in
theorem member_is (s : ByteArray) (m : Bool) (hs : s.size ≤ 20000) (w : World) : Calls Tryd.prog 11 #[.string s, .bool m] w fun e w' => e = .returned (.bool (memberB s.data.toList m)) ∧ w' = w := by
  have htl : s.toList = s.data.toList := Lib.toList_data s
  by_cases hf : m = true ∧ (s.data.toList = initL ∨ s.data.toList = clinitL)
  · have HX := Lib.hid (member_first hf)
    obtain ⟨rfl, h | h⟩ := hf
    · have t1 : (s.toList == [60, 105, 110, 105, 116, 62]) = true := by rw [htl, h]; rfl
      clear h htl
      go_enter Tryd.func11, Tryd.ntmps11
      go_wp2_with fail
      go_ret
      exact ⟨by rw [HX.out]; rfl, rfl⟩
    · have t1 : (s.toList == [60, 105, 110, 105, 116, 62]) = false := by rw [htl, h]; rfl
      have t2 : (s.toList == [60, 99, 108, 105, 110, 105, 116, 62]) = true := by rw [htl, h]; rfl
      clear h htl
      go_enter Tryd.func11, Tryd.ntmps11
      go_wp2_with fail
      go_ret
      exact ⟨by rw [HX.out]; rfl, rfl⟩
  · obtain ⟨hM, hcase⟩ := member_tail hf
    rw [hM]
    have hT : tailB s.data.toList = (decide (s.data.toList ≠ []) && decide (s.data.toList.length ≤ 64) && s.data.toList.all plainU && decide (indexByte s.data.toList 47 = -1)) := rfl
    rw [← Lib.size_eq] at hT
    unfold initL clinitL at hcase
    rw [← htl] at hcase
    have hpl := isPlain_is s hs
    have hix := indexSlash s
    clear hM hf
    by_cases h0 : s.data.toList = []
    · have t3 : (s.toList != []) = false := by rw [htl, h0]; rfl
      have t4 : (s.toList == []) = true := by rw [htl, h0]; rfl
      have HX := Lib.hid (show tailB s.data.toList = false by rw [h0]; rfl)
      clear hT h0 htl hpl hix
      rcases hcase with rfl | ⟨rfl, t1, t2⟩
      all_goals
        go_enter Tryd.func11, Tryd.ntmps11
        go_wp2_with fail
        go_ret
        exact ⟨by rw [HX.out]; rfl, rfl⟩
    · have t3 : (s.toList != []) = true := by rw [htl]; simpa using h0
      have t4 : (s.toList == []) = false := by rw [htl, beq_eq_false_iff_ne]; exact h0
      rw [decide_eq_true h0, Bool.true_and] at hT
      by_cases h64 : s.size ≤ 64
      · have t5 : decide ((s.size : Int) ≤ 64) = true := by simp; omega
        rw [decide_eq_true h64, Bool.true_and] at hT
        cases hP : s.data.toList.all plainU with
        | false =>
          rw [hP, Bool.false_and] at hT
          rw [hP] at hpl
          have HX := Lib.hid hT
          clear hT h0 htl hix h64 hP
          rcases hcase with rfl | ⟨rfl, t1, t2⟩
          all_goals
            go_enter Tryd.func11, Tryd.ntmps11
            go_wp2_with fail
            refine (hpl _).mono ?_
            rintro e w1 ⟨rfl, rfl⟩
            clear hpl
            go_wp2_with fail
            go_ret
            exact ⟨by rw [HX.out]; rfl, rfl⟩
        | true =>
          rw [hP, Bool.true_and] at hT
          rw [hP] at hpl
          by_cases hi : indexByte s.data.toList 47 = -1
          · rw [decide_eq_true hi] at hT
            rw [hi] at hix
            have HX := Lib.hid hT
            clear hT h0 htl h64 hP hi
            rcases hcase with rfl | ⟨rfl, t1, t2⟩
            all_goals
              go_enter Tryd.func11, Tryd.ntmps11
              go_wp2_with fail
              refine (hpl _).mono ?_
              rintro e w1 ⟨rfl, rfl⟩
              clear hpl
              go_wp2_with fail
              refine (hix _).mono ?_
              rintro e w1 ⟨rfl, rfl⟩
              clear hix
              go_wp2_with fail
              go_ret
              exact ⟨by rw [HX.out]; rfl, rfl⟩
          · rw [decide_eq_false hi] at hT
            have hge := indexByte_ge s.data.toList 47
            obtain ⟨j, hj⟩ : ∃ j : Nat, indexByte s.data.toList 47 = j := ⟨(indexByte s.data.toList 47).toNat, by omega⟩
            rw [hj] at hix
            have t6 : decide ((j : Int) < 0) = false := by simp
            have HX := Lib.hid hT
            clear hT h0 htl h64 hP hi hge hj
            rcases hcase with rfl | ⟨rfl, t1, t2⟩
            all_goals
              go_enter Tryd.func11, Tryd.ntmps11
              go_wp2_with fail
              refine (hpl _).mono ?_
              rintro e w1 ⟨rfl, rfl⟩
              clear hpl
              go_wp2_with fail
              refine (hix _).mono ?_
              rintro e w1 ⟨rfl, rfl⟩
              clear hix
              go_wp2_with fail
              go_ret
              exact ⟨by rw [HX.out]; rfl, rfl⟩
      · have t5 : decide ((s.size : Int) ≤ 64) = false := by simp; omega
        rw [decide_eq_false h64, Bool.false_and, Bool.false_and] at hT
        have HX := Lib.hid hT
        clear hT h0 htl hpl hix h64
        rcases hcase with rfl | ⟨rfl, t1, t2⟩
        all_goals
          go_enter Tryd.func11, Tryd.ntmps11
          go_wp2_with fail
          go_ret
          exact ⟨by rw [HX.out]; rfl, rfl⟩
set_option maxHeartbeats 4000000 in
theorem refMember_is (s : ByteArray) (m : Bool) (hs : s.size ≤ 20000) (w : World) : Calls Tryd.prog 12 #[.string s, .bool m] w fun e w' => e = .returned (.bool (memberB s.data.toList m)) ∧ Below w.heap.size w w' := by
  have htl : s.toList = s.data.toList := Lib.toList_data s
  have hl := Lib.size_eq s
  by_cases hf : m = true ∧ (s.data.toList = initL ∨ s.data.toList = clinitL)
  · have HX := Lib.hid (member_first hf)
    obtain ⟨rfl, h | h⟩ := hf
    · have t1 : (s.toList == [60, 105, 110, 105, 116, 62]) = true := by rw [htl, h]; rfl
      clear h htl hl
      go_enter Tryd.func12, Tryd.ntmps12
      go_wp2_with fail
      go_ret
      exact ⟨by rw [HX.out]; rfl, Below.refl _ _⟩
    · have t1 : (s.toList == [60, 105, 110, 105, 116, 62]) = false := by rw [htl, h]; rfl
      have t2 : (s.toList == [60, 99, 108, 105, 110, 105, 116, 62]) = true := by rw [htl, h]; rfl
      clear h htl hl
      go_enter Tryd.func12, Tryd.ntmps12
      go_wp2_with fail
      go_ret
      exact ⟨by rw [HX.out]; rfl, Below.refl _ _⟩
  · obtain ⟨hM, hcase⟩ := member_tail hf
    rw [hM, tailB_is, ← hl]
    unfold initL clinitL at hcase
    rw [← htl] at hcase
    have HL := Lib.hid hl
    clear hM hf htl hl
    rcases hcase with rfl | ⟨rfl, t1, t2⟩
    all_goals
      go_enter Tryd.func12, Tryd.ntmps12
      go_wp2_with fail
      go_loopw [5] (fun iv wr => ∃ i : Nat, i ≤ s.size ∧ iv = .int .i64 i ∧ Hid (Below w.heap.size w wr) ∧ Hid (s.data.toList.all okC = (s.data.toList.drop i).all okC)) (fun iv _ => s.size - (RowKit.intOf iv).toNat)
      case atStart => exact ⟨0, Nat.zero_le _, rfl, Lib.hid (Below.refl _ _), Lib.hid (by rw [List.drop_zero])⟩
      case round =>
        obtain ⟨i, hi, rfl, HW, HR⟩ := hrel
        by_cases hlt : i < s.size
        · obtain ⟨x, hx⟩ : ∃ x : UInt8, s[i]'hlt = x := ⟨_, rfl⟩
          obtain ⟨hget, hdrop⟩ := get_drop s hlt hx
          rw [hdrop, List.all_cons] at HR
          have hlt2 : (i : Int) < s.size := by omega
          clear hget hdrop
          by_cases h47 : x = 47
          · subst h47
            have HX := Lib.hid (show s.data.toList.all okC = false by rw [HR.out]; rfl)
            clear HR
            go_wp2_with fail
            go_ret
            exact ⟨by rw [HX.out]; rfl, HW.out⟩
          · have t3 : ((x.toNat : Int) == 47) = false := by
              rw [beq_eq_false_iff_ne]; intro h
              exact h47 (UInt8.toNat_inj.1 (by show x.toNat = 47; omega))
            have hpl := refPlain_is x wr
            have hr : okC x = plainU x := by unfold okC; rw [show (x == 47) = false by rw [beq_eq_false_iff_ne]; exact h47]; simp
            rw [hr] at HR
            clear hr h47
            cases hP : plainU x with
            | false =>
              rw [hP] at hpl
              have HX := Lib.hid (show s.data.toList.all okC = false by rw [HR.out, hP]; rfl)
              clear hP HR
              go_wp2_with fail
              refine hpl.mono ?_
              rintro e w1 ⟨rfl, hb1⟩
              have H1 := Lib.hid (below_next HW.out (Nat.le_refl _) hb1)
              clear hpl hb1
              go_wp2_with fail
              go_ret
              exact ⟨by rw [HX.out]; rfl, H1.out⟩
            | true =>
              rw [hP] at hpl
              have HX := Lib.hid (show s.data.toList.all okC = (s.data.toList.drop (i + 1)).all okC by rw [HR.out, hP]; rfl)
              clear hP HR
              go_wp2_with fail
              refine hpl.mono ?_
              rintro e w1 ⟨rfl, hb1⟩
              have H1 := Lib.hid (below_next HW.out (Nat.le_refl _) hb1)
              clear hpl hb1
              go_wp2_with fail
              go_roundw
              case rel => exact ⟨i + 1, by omega, by go_num, H1, HX⟩
              case measure => simp [RowKit.intOf]; omega
        · obtain rfl : s.size = i := by omega
          have hend : s.data.toList.drop s.size = [] := List.drop_eq_nil_of_le (by rw [HL.out]; exact Nat.le_refl _)
          rw [hend] at HR
          have HX := Lib.hid (show s.data.toList.all okC = true by rw [HR.out]; rfl)
          clear hend HR
          by_cases h1 : 1 ≤ s.size
          · have t5 : decide ((s.size : Int) ≥ 1) = true := by simp; omega
            by_cases h64 : s.size ≤ 64
            · have t6 : decide ((s.size : Int) ≤ 64) = true := by simp; omega
              have HY := Lib.hid (And.intro h1 h64)
              clear h1 h64
              go_wp2_with fail
              go_ret
              exact ⟨by rw [HX.out, decide_eq_true HY.out.1, decide_eq_true HY.out.2]; rfl, HW.out⟩
            · have t6 : decide ((s.size : Int) ≤ 64) = false := by simp; omega
              have HY := Lib.hid h64
              clear h1 h64
              go_wp2_with fail
              go_ret
              exact ⟨by rw [HX.out, decide_eq_false HY.out, Bool.and_false]; rfl, HW.out⟩
          · have t5 : decide ((s.size : Int) ≥ 1) = false := by simp; omega
            have HY := Lib.hid h1
            clear h1
            go_wp2_with fail
            go_ret
            exact ⟨by rw [HX.out, decide_eq_false HY.out]; rfl, HW.out⟩
/-- how many slots a value has -/
def slotsN (l : List UInt8) : Nat := if l = [74] then 2 else if l = [86] ∨ l = [] then 0 else 1
set_option maxHeartbeats 2000000 in
theorem slots_is (s : ByteArray) (w : World) : Calls Tryd.prog 15 #[.string s] w fun e w' => e = .returned (.int .i64 (slotsN s.data.toList)) ∧ w' = w := by
  have htl : s.toList = s.data.toList := Lib.toList_data s
  by_cases h1 : s.data.toList = [74]
  · have t1 : (s.toList == [74]) = true := by rw [htl, h1]; rfl
    rw [show slotsN s.data.toList = 2 by unfold slotsN; rw [if_pos h1]]
    clear h1 htl
    go_enter Tryd.func15, Tryd.ntmps15
    go_wp2_with fail
    go_ret
    exact ⟨rfl, rfl⟩
  · have t1 : (s.toList == [74]) = false := by rw [htl, beq_eq_false_iff_ne]; exact h1
    by_cases h2 : s.data.toList = [86]
    · have t2 : (s.toList == [86]) = true := by rw [htl, h2]; rfl
      rw [show slotsN s.data.toList = 0 by unfold slotsN; rw [if_neg h1, if_pos (.inl h2)]]
      clear h1 h2 htl
      go_enter Tryd.func15, Tryd.ntmps15
      go_wp2_with fail
      go_ret
      exact ⟨rfl, rfl⟩
    · have t2 : (s.toList == [86]) = false := by rw [htl, beq_eq_false_iff_ne]; exact h2
      by_cases h3 : s.data.toList = []
      · have t3 : (s.toList == []) = true := by rw [htl, h3]; rfl
        rw [show slotsN s.data.toList = 0 by unfold slotsN; rw [if_neg h1, if_pos (.inr h3)]]
        clear h1 h2 h3 htl
        go_enter Tryd.func15, Tryd.ntmps15
        go_wp2_with fail
        go_ret
        exact ⟨rfl, rfl⟩
      · have t3 : (s.toList == []) = false := by rw [htl, beq_eq_false_iff_ne]; exact h3
        have t4 : s.toList.isEmpty = false := by rw [htl, List.isEmpty_eq_false_iff]; exact h3
        rw [show slotsN s.data.toList = 1 by unfold slotsN; rw [if_neg h1, if_neg (fun h => h.elim h2 h3)]]
        clear h1 h2 h3 htl
        go_enter Tryd.func15, Tryd.ntmps15
        go_wp2_with fail
        go_ret
        exact ⟨rfl, rfl⟩
set_option maxHeartbeats 2000000 in
theorem refSlots_is (s : ByteArray) (w : World) : Calls Tryd.prog 16 #[.string s] w fun e w' => e = .returned (.int .i64 (slotsN s.data.toList)) ∧ w' = w := by
  have htl : s.toList = s.data.toList := Lib.toList_data s
  by_cases h1 : s.data.toList = [74]
  · have t1 : (s.toList == [74]) = true := by rw [htl, h1]; rfl
    rw [show slotsN s.data.toList = 2 by unfold slotsN; rw [if_pos h1]]
    clear h1 htl
    go_enter Tryd.func16, Tryd.ntmps16
    go_wp2_with fail
    go_ret
    exact ⟨rfl, rfl⟩
  · have t1 : (s.toList == [74]) = false := by rw [htl, beq_eq_false_iff_ne]; exact h1
    by_cases h3 : s.data.toList = []
    · have t3 : (s.toList == []) = true := by rw [htl, h3]; rfl
      rw [show slotsN s.data.toList = 0 by unfold slotsN; rw [if_neg h1, if_pos (.inr h3)]]
      clear h1 h3 htl
      go_enter Tryd.func16, Tryd.ntmps16
      go_wp2_with fail
      go_ret
      exact ⟨rfl, rfl⟩
    · have t3 : (s.toList == []) = false := by rw [htl, beq_eq_false_iff_ne]; exact h3
      have t4 : s.toList.isEmpty = false := by rw [htl, List.isEmpty_eq_false_iff]; exact h3
      by_cases h2 : s.data.toList = [86]
      · have t2 : (s.toList == [86]) = true := by rw [htl, h2]; rfl
        rw [show slotsN s.data.toList = 0 by unfold slotsN; rw [if_neg h1, if_pos (.inl h2)]]
        clear h1 h2 h3 htl
        go_enter Tryd.func16, Tryd.ntmps16
        go_wp2_with fail
        go_ret
        exact ⟨rfl, rfl⟩
      · have t2 : (s.toList == [86]) = false := by rw [htl, beq_eq_false_iff_ne]; exact h2
        rw [show slotsN s.data.toList = 1 by unfold slotsN; rw [if_neg h1, if_neg (fun h => h.elim h2 h3)]]
        clear h1 h2 h3 htl
        go_enter Tryd.func16, Tryd.ntmps16
        go_wp2_with fail
        go_ret
        exact ⟨rfl, rfl⟩
end Go.Proofs.YtbeekjfjfcaobaaDoor
