/- Descriptors: contracts of the document's own first and Desc, and of package name's Desc. Conditions: the text is no longer than 20000 bytes; the variable internal/bytealg.MaxLen has a value. -/
import Derived.Test.YtbeekjfjfcaobaaDoorMe
set_option linter.unusedVariables false
set_option maxRecDepth 100000
namespace Go.Proofs.YtbeekjfjfcaobaaDoor
open Go.RowKit Go.Lib

/-- the class's end looked for from a place on -/
def cF (l : List UInt8) (n k : Nat) : Nat :=
  let i := indexByte (l.drop k) 59
  if 0 ≤ i ∧ classB ((l.drop (n + 1)).take (k - (n + 1) + i.toNat)) = true then k + i.toNat + 1 else 0
theorem cF_start (l : List UInt8) (n : Nat) : clsN l n = cF l n (n + 1) := by
  unfold clsN cF
  simp only [Nat.sub_self, Nat.zero_add]
theorem cF_end {l : List UInt8} {n k : Nat} (h : l.drop k = []) : cF l n k = 0 := by
  unfold cF; rw [h]; simp [indexByte]
theorem cF_hit {l : List UInt8} {n k : Nat} (h : l.drop k = 59 :: l.drop (k + 1)) : cF l n k = if classB ((l.drop (n + 1)).take (k - (n + 1))) = true then k + 1 else 0 := by
  unfold cF; rw [h]
  have : indexByte (59 :: l.drop (k + 1)) 59 = 0 := by unfold indexByte; rfl
  simp [this]
theorem cF_next {l : List UInt8} {n k : Nat} {x : UInt8} (h : l.drop k = x :: l.drop (k + 1)) (hx : ¬x = 59) (hk : n + 1 ≤ k) : cF l n k = cF l n (k + 1) := by
  unfold cF; rw [h]
  have hb : ¬((x == 59) = true) := by simpa using hx
  have hge := indexByte_ge (l.drop (k + 1)) 59
  have : indexByte (x :: l.drop (k + 1)) 59 = if (indexByte (l.drop (k + 1)) 59 == -1) = true then -1 else indexByte (l.drop (k + 1)) 59 + 1 := by rw [indexByte, if_neg hb]
  simp only [this]
  by_cases e : (indexByte (l.drop (k + 1)) 59 == -1) = true
  · rw [if_pos e]
    have e2 : indexByte (l.drop (k + 1)) 59 = -1 := by simpa using e
    rw [e2, if_neg (by simp), if_neg (by simp)]
  · rw [if_neg e]
    have e2 : indexByte (l.drop (k + 1)) 59 ≠ -1 := by simpa using e
    obtain ⟨j, hj⟩ : ∃ j : Nat, indexByte (l.drop (k + 1)) 59 = j := ⟨(indexByte (l.drop (k + 1)) 59).toNat, by omega⟩
    rw [hj]
    rw [show ((j : Int) + 1).toNat = j + 1 by omega, Int.toNat_natCast, show k - (n + 1) + (j + 1) = k + 1 - (n + 1) + j by omega, show k + (j + 1) + 1 = k + 1 + j + 1 by omega]
    congr 1
    simp only [eq_iff_iff]
    constructor
    · rintro ⟨_, h2⟩; exact ⟨by omega, h2⟩
    · rintro ⟨_, h2⟩; exact ⟨by omega, h2⟩
set_option maxHeartbeats 8000000 in
theorem refFirst_is (s : ByteArray) (hs : s.size ≤ 20000) (w : World) : Calls Tryd.prog 30 #[.string s] w fun e w' => e = .returned (.int .i64 (descN s.data.toList)) ∧ Below w.heap.size w w' := by
  have hl := Lib.size_eq s
  have hle := brN_le s.data.toList
  rw [← hl] at hle
  have HL := Lib.hid hl
  clear hl
  go_enter Tryd.func30, Tryd.ntmps30
  go_wp2_with fail
  go_loopw [3] (fun iv wr => ∃ i : Nat, i ≤ brN s.data.toList ∧ iv = .int .i64 i ∧ wr = w) (fun iv _ => s.size - (RowKit.intOf iv).toNat)
  case atStart => exact ⟨0, Nat.zero_le _, rfl, rfl⟩
  case round =>
    obtain ⟨i, hi, rfl, rfl⟩ := hrel
    by_cases hlt : i < brN s.data.toList
    · have hlt1 : i < s.size := by omega
      obtain ⟨x, hx⟩ : ∃ x : UInt8, s[i]'hlt1 = x := ⟨_, rfl⟩
      obtain ⟨hget, _⟩ := get_drop s hlt1 hx
      have h91 := brN_lt s.data.toList i hlt
      rw [hget] at h91
      injection h91 with h91
      subst h91
      have hlt2 : (i : Int) < s.size := by omega
      clear hget
      go_wp2_with fail
      go_roundw
      case rel => exact ⟨i + 1, by omega, by go_num, trivial⟩
      case measure => simp [RowKit.intOf]; omega
    · obtain rfl : i = brN s.data.toList := by omega
      by_cases hend : brN s.data.toList = s.size
      · have HX := Lib.hid (desc_end (l := s.data.toList) (by rw [hend]; exact HL.out))
        generalize hB : brN s.data.toList = B at *
        subst hend
        have hlt2 : decide ((s.size : Int) < s.size) = false := by simp
        have t2 : ((s.size : Int) == s.size) = true := by simp
        by_cases h8 : 8 < s.size
        · have t1 : decide ((s.size : Int) > 8) = true := by simp; omega
          clear hB
          go_wp2_with fail
          go_ret
          exact ⟨by rw [HX.out]; rfl, Below.refl _ _⟩
        · have t1 : decide ((s.size : Int) > 8) = false := by simp; omega
          clear hB
          go_wp2_with fail
          go_ret
          exact ⟨by rw [HX.out]; rfl, Below.refl _ _⟩
      · have hlt1 : brN s.data.toList < s.size := by omega
        obtain ⟨x, hx⟩ : ∃ x : UInt8, s[brN s.data.toList]'hlt1 = x := ⟨_, rfl⟩
        obtain ⟨hget, hdrop⟩ := get_drop s hlt1 hx
        have hne := brN_at s.data.toList
        rw [hget] at hne
        have h91 : ((x.toNat : Int) == 91) = false := by
          rw [beq_eq_false_iff_ne]; intro h
          exact hne (congrArg some (UInt8.toNat_inj.1 (by show x.toNat = 91; omega)))
        have HD := Lib.hid (fun h8 => desc_at (l := s.data.toList) h8 hget)
        have hlong := Lib.hid (desc_long (l := s.data.toList))
        clear hne hget hdrop
        generalize brN s.data.toList = B at *
        have hlt2 : (B : Int) < s.size := by omega
        have t2 : ((B : Int) == s.size) = false := by rw [beq_eq_false_iff_ne]; omega
        by_cases h8 : 8 < B
        · have t1 : decide ((B : Int) > 8) = true := by simp; omega
          have HX := Lib.hid (hlong.out h8)
          clear h8
          go_wp2_with fail
          go_ret
          exact ⟨by rw [HX.out]; rfl, Below.refl _ _⟩
        · have t1 : decide ((B : Int) > 8) = false := by simp; omega
          have hD := HD.out h8
          rcases oneU_cases x with hone | ⟨hn, q1, q2, q3, q4, q5, q6⟩
          · have HX := Lib.hid (show descN s.data.toList = B + 1 by rw [hD]; rcases hone with rfl | rfl | rfl | rfl | rfl | rfl <;> rfl)
            clear hD hlong HD h8
            rcases hone with rfl | rfl | rfl | rfl | rfl | rfl
            all_goals
              go_wp2_with fail
              go_ret
              exact ⟨by rw [HX.out]; go_num, Below.refl _ _⟩
          · rw [hn] at hD
            by_cases h76 : x = 76
            · subst h76
              rw [if_neg (by decide), if_pos rfl, cF_start] at hD
              clear hlong HD h8
              go_wp2_with fail
              go_loopw [4] (fun kv wq => ∃ k : Nat, B + 1 ≤ k ∧ k ≤ s.size ∧ kv = .int .i64 k ∧ wq = wr ∧ Hid (descN s.data.toList = cF s.data.toList B k)) (fun kv _ => s.size - (RowKit.intOf kv).toNat)
              case atStart => exact ⟨B + 1, Nat.le_refl _, by omega, by go_num, rfl, Lib.hid hD⟩
              case round =>
                obtain ⟨k, hk1, hk2, rfl, rfl, HR⟩ := hrel
                by_cases hkl : k < s.size
                · obtain ⟨y, hy⟩ : ∃ y : UInt8, s[k]'hkl = y := ⟨_, rfl⟩
                  obtain ⟨_, hkd⟩ := get_drop s hkl hy
                  have hkl2 : (k : Int) < s.size := by omega
                  by_cases h59 : y = 59
                  · subst h59
                    have hD2 := HR.out.trans (cF_hit (n := B) hkd)
                    have hR : (s.extract (B + 1) k).data.toList = (s.data.toList.drop (B + 1)).take (k - (B + 1)) := mid_list s (B + 1) k
                    have hcl := fun W => refClass_is (s.extract (B + 1) k) (by rw [ByteArray.size_extract]; omega) W
                    rw [← hR] at hD2
                    cases hP : classB (s.extract (B + 1) k).data.toList with
                    | false =>
                      rw [hP] at hD2
                      simp only [hP] at hcl
                      rw [if_neg (by simp)] at hD2
                      have HX := Lib.hid hD2
                      clear hD2 hD HR hR hkd hP
                      go_wp2_with fail
                      refine (hcl _).mono ?_
                      rintro e w1 ⟨rfl, hb1⟩
                      have H1 := Lib.hid hb1
                      clear hcl hb1
                      go_wp2_with fail
                      go_ret
                      exact ⟨by rw [HX.out]; rfl, H1.out⟩
                    | true =>
                      rw [hP] at hD2
                      simp only [hP] at hcl
                      rw [if_pos rfl] at hD2
                      have HX := Lib.hid hD2
                      clear hD2 hD HR hR hkd hP
                      go_wp2_with fail
                      refine (hcl _).mono ?_
                      rintro e w1 ⟨rfl, hb1⟩
                      have H1 := Lib.hid hb1
                      clear hcl hb1
                      go_wp2_with fail
                      go_ret
                      exact ⟨by rw [HX.out]; go_num, H1.out⟩
                  · have t3 : ((y.toNat : Int) == 59) = false := by
                      rw [beq_eq_false_iff_ne]; intro h
                      exact h59 (UInt8.toNat_inj.1 (by show y.toNat = 59; omega))
                    have HX := Lib.hid (HR.out.trans (cF_next hkd h59 hk1))
                    clear HR hkd h59 hD
                    go_wp2_with fail
                    go_roundw
                    case rel => exact ⟨k + 1, by omega, by omega, by go_num, trivial, HX⟩
                    case measure => simp [RowKit.intOf]; omega
                · obtain rfl : s.size = k := by omega
                  have hend2 : s.data.toList.drop s.size = [] := List.drop_eq_nil_of_le (by rw [HL.out]; exact Nat.le_refl _)
                  have HX := Lib.hid (HR.out.trans (cF_end hend2))
                  clear hend2 HR hD
                  go_wp2_with fail
                  go_ret
                  exact ⟨by rw [HX.out]; rfl, Below.refl _ _⟩
            · have t7 : ((x.toNat : Int) == 76) = false := by
                rw [beq_eq_false_iff_ne]; intro h
                exact h76 (UInt8.toNat_inj.1 (by show x.toNat = 76; omega))
              rw [if_neg (by decide), if_neg h76] at hD
              have HX := Lib.hid hD
              clear hD hlong HD h8 h76
              go_wp2_with fail
              go_ret
              exact ⟨by rw [HX.out]; rfl, Below.refl _ _⟩
/-- is it a descriptor? -/
def descB (l : List UInt8) : Bool := decide (0 < descN l) && decide (descN l = l.length)
set_option maxHeartbeats 2000000 in
theorem desc_is (s : ByteArray) (hs : s.size ≤ 20000) (w : World) (hmx : Mx w) : Calls Tryd.prog 13 #[.string s] w fun e w' => e = .returned (.bool (descB s.data.toList)) ∧ Below w.heap.size w w' := by
  have hd := descLen_is s hs w hmx
  have hB : descB s.data.toList = (decide (0 < descN s.data.toList) && decide (descN s.data.toList = s.size)) := by unfold descB; rw [← Lib.size_eq]
  have hle := descN_le s.data.toList
  rw [← Lib.size_eq] at hle
  rw [hB]
  generalize descN s.data.toList = n at *
  clear hB hmx
  by_cases h0 : 0 < n
  · have t1 : decide ((n : Int) > 0) = true := by simp; omega
    by_cases h1 : n = s.size
    · have t2 : ((n : Int) == s.size) = true := by simp; omega
      rw [decide_eq_true h0, decide_eq_true h1]
      clear h1
      go_enter Tryd.func13, Tryd.ntmps13
      go_wp2_with fail
      refine hd.mono ?_
      rintro e w1 ⟨rfl, hb1⟩
      have H1 := Lib.hid hb1
      clear hd hb1
      go_wp2_with fail
      go_ret
      exact ⟨rfl, H1.out⟩
    · have t2 : ((n : Int) == s.size) = false := by rw [beq_eq_false_iff_ne]; omega
      rw [decide_eq_true h0, decide_eq_false h1]
      clear h1
      go_enter Tryd.func13, Tryd.ntmps13
      go_wp2_with fail
      refine hd.mono ?_
      rintro e w1 ⟨rfl, hb1⟩
      have H1 := Lib.hid hb1
      clear hd hb1
      go_wp2_with fail
      go_ret
      exact ⟨rfl, H1.out⟩
  · have t1 : decide ((n : Int) > 0) = false := by simp; omega
    rw [decide_eq_false h0, Bool.false_and]
    go_enter Tryd.func13, Tryd.ntmps13
    go_wp2_with fail
    refine hd.mono ?_
    rintro e w1 ⟨rfl, hb1⟩
    have H1 := Lib.hid hb1
    clear hd hb1
    go_wp2_with fail
    go_ret
    exact ⟨rfl, H1.out⟩
theorem descB_nil {l : List UInt8} (h : l.length = 0) : descB l = false := by
  have := descN_le l
  unfold descB
  rw [decide_eq_false (by omega)]; rfl
theorem descB_some {l : List UInt8} (h : 0 < l.length) : descB l = decide (descN l = l.length) := by
  unfold descB
  by_cases e : descN l = l.length
  · rw [decide_eq_true (show 0 < descN l by omega), Bool.true_and]
  · rw [decide_eq_false e, Bool.and_false]
set_option maxHeartbeats 2000000 in
theorem refDesc_is (s : ByteArray) (hs : s.size ≤ 20000) (w : World) : Calls Tryd.prog 14 #[.string s] w fun e w' => e = .returned (.bool (descB s.data.toList)) ∧ Below w.heap.size w w' := by
  have hd := refFirst_is s hs w
  have hl := Lib.size_eq s
  by_cases h0 : 0 < s.size
  · have t1 : decide ((s.size : Int) > 0) = true := by simp; omega
    rw [descB_some (by omega), ← hl]
    generalize descN s.data.toList = n at *
    by_cases h1 : n = s.size
    · have t2 : ((n : Int) == s.size) = true := by simp; omega
      rw [decide_eq_true h1]
      clear h1 hl
      go_enter Tryd.func14, Tryd.ntmps14
      go_wp2_with fail
      refine hd.mono ?_
      rintro e w1 ⟨rfl, hb1⟩
      have H1 := Lib.hid hb1
      clear hd hb1
      go_wp2_with fail
      go_ret
      exact ⟨rfl, H1.out⟩
    · have t2 : ((n : Int) == s.size) = false := by rw [beq_eq_false_iff_ne]; omega
      rw [decide_eq_false h1]
      clear h1 hl
      go_enter Tryd.func14, Tryd.ntmps14
      go_wp2_with fail
      refine hd.mono ?_
      rintro e w1 ⟨rfl, hb1⟩
      have H1 := Lib.hid hb1
      clear hd hb1
      go_wp2_with fail
      go_ret
      exact ⟨rfl, H1.out⟩
  · have t1 : decide ((s.size : Int) > 0) = false := decide_eq_false (by omega)
    rw [descB_nil (l := s.data.toList) (by omega)]
    clear hl
    go_enter Tryd.func14, Tryd.ntmps14
    go_wp2_with fail
    go_ret
    exact ⟨rfl, Below.refl _ _⟩
end Go.Proofs.YtbeekjfjfcaobaaDoor
