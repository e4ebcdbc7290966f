/- Descriptors of any length: contracts of package name's Class, descLen and Desc. Condition: the variable internal/bytealg.MaxLen has a value. -/
import Derived.Test.YtbeekjfjfcaobaaDoorWNb
set_option linter.unusedVariables false
set_option maxRecDepth 100000
namespace Go.Proofs.YtbeekjfjfcaobaaDoor
open Go.RowKit Go.Lib Go.Maps

set_option maxHeartbeats 2000000 in
theorem slCutSemi (s : ByteArray) (hs : s.size ≤ 9223372036854775807) (w : World) : Calls Tryd.prog 45 #[.string s, .string ⟨#[59]⟩] w fun e w' => e = .returned (.tuple #[.string ⟨(Lib.cut s.data.toList [59]).1.toArray⟩, .string ⟨(Lib.cut s.data.toList [59]).2.1.toArray⟩, .bool (Lib.cut s.data.toList [59]).2.2]) ∧ ∃ n, w' = w.drewN n := by
  have hi := Tryd.stringslite_Index_one s 59 w
  have hge := indexByte_ge s.data.toList 59
  by_cases hno : indexByte s.data.toList 59 = -1
  · rw [cut_none hno]
    rw [hno] at hi
    have hst : (⟨s.data.toList.toArray⟩ : ByteArray) = s := by cases s; simp
    simp only [hst]
    clear hge hno
    go_enter Tryd.func45, Tryd.ntmps45
    go_wp2_with fail
    refine hi.mono ?_
    rintro e w1 ⟨rfl, rfl⟩
    clear hi
    go_wp2_with fail
    go_ret3
    exact ⟨rfl, 0, rfl⟩
  · obtain ⟨i, hix⟩ : ∃ i : Nat, indexByte s.data.toList 59 = i := ⟨(indexByte s.data.toList 59).toNat, by omega⟩
    have hbd := indexByte_bd s.data.toList 59
    rw [cut_some hix]
    rw [hix] at hi hbd
    rw [← Lib.size_eq] at hbd
    have e1 : (⟨(s.data.toList.take i).toArray⟩ : ByteArray) = s.extract 0 i := tl_inj (by rw [tl_take]; rfl)
    have e2 : (⟨(s.data.toList.drop (i + 1)).toArray⟩ : ByteArray) = s.extract (i + 1) s.size := tl_inj (by rw [tl_drop s (i + 1) (by omega)]; rfl)
    simp only [e1, e2]
    have c1 : (0 : Int) ≤ (i : Int) := by omega
    have c2 : (i : Int) ≤ (s.size : Int) := by omega
    have c3 : (0 : Int) ≤ (i : Int) + 1 := by omega
    have c4 : (i : Int) + 1 ≤ (s.size : Int) := by omega
    have c5 : ((⟨#[59]⟩ : ByteArray).size : Int) = 1 := rfl
    have c6 : (⟨#[59]⟩ : ByteArray).size = 1 := rfl
    have t1 : decide ((i : Int) ≥ 0) = true := by simp
    clear hge hno hix e1 e2
    go_enter Tryd.func45, Tryd.ntmps45
    go_wp2_with fail
    refine hi.mono ?_
    rintro e w1 ⟨rfl, rfl⟩
    clear hi
    go_wp2_with fail
    go_quiet (fail)
    go_wp2_with fail
    go_ret3
    exact ⟨rfl, _, rfl⟩
set_option maxHeartbeats 2000000 in
theorem cutSemi (s : ByteArray) (hs : s.size ≤ 9223372036854775807) (w : World) : Calls Tryd.prog 38 #[.string s, .string ⟨#[59]⟩] w fun e w' => e = .returned (.tuple #[.string ⟨(Lib.cut s.data.toList [59]).1.toArray⟩, .string ⟨(Lib.cut s.data.toList [59]).2.1.toArray⟩, .bool (Lib.cut s.data.toList [59]).2.2]) ∧ ∃ n, w' = w.drewN n := by
  have hi := slCutSemi s hs w
  generalize Lib.cut s.data.toList [59] = C at *
  go_enter Tryd.func38, Tryd.ntmps38
  go_wp2_with fail
  refine hi.mono ?_
  rintro e w1 ⟨rfl, d, rfl⟩
  clear hi
  go_wp2_with fail
  go_ret3
  exact ⟨rfl, d, rfl⟩
set_option maxHeartbeats 2000000 in
theorem class_big (s : ByteArray) (hs : s.size ≤ 9223372036854775807) (w : World) (hmx : Mx w) : Calls Tryd.prog 9 #[.string s] w fun e w' => e = .returned (.bool (classB s.data.toList)) ∧ Below w.heap.size w w' := by
  by_cases h58 : s.size ≤ 58
  · exact class_is s (by omega) w hmx
  · have t1 : decide ((s.size : Int) > 58) = true := by simp; omega
    rw [class_long (by rw [← Lib.size_eq]; omega)]
    clear h58
    go_enter Tryd.func9, Tryd.ntmps9
    go_wp2_with fail
    go_ret
    exact ⟨rfl, Below.refl _ _⟩
set_option maxHeartbeats 8000000 in
theorem descLen_big (s : ByteArray) (hs : s.size ≤ 9223372036854775807) (w : World) (hmx : Mx w) : Calls Tryd.prog 29 #[.string s] w fun e w' => e = .returned (.int .i64 (descN s.data.toList)) ∧ Below w.heap.size w w' := by
  have hl := Lib.size_eq s
  have hle := brN_le s.data.toList
  rw [← hl] at hle
  have HL := Lib.hid (And.intro hl hmx)
  clear hl hmx
  go_enter Tryd.func29, Tryd.ntmps29
  go_wp2_with fail
  go_loopw [3] (fun iv wr => ∃ i : Nat, i ≤ brN s.data.toList ∧ iv = .int .i64 i ∧ wr = w) (fun iv _ => s.size - (RowKit.intOf iv).toNat)
  case atStart => exact ⟨0, Nat.zero_le _, rfl, rfl⟩
  case round =>
    obtain ⟨i, hi, rfl, rfl⟩ := hrel
    by_cases hlt : i < brN s.data.toList
    · have hlt1 : i < s.size := by omega
      obtain ⟨x, hx⟩ : ∃ x : UInt8, s[i]'hlt1 = x := ⟨_, rfl⟩
      obtain ⟨hget, _⟩ := get_drop s hlt1 hx
      have h91 := brN_lt s.data.toList i hlt
      rw [hget] at h91
      injection h91 with h91
      subst h91
      have hlt2 : (i : Int) < s.size := by omega
      clear hget
      go_wp2_with fail
      go_roundw
      case rel => exact ⟨i + 1, by omega, by go_num, trivial⟩
      case measure => simp [RowKit.intOf]; omega
    · obtain rfl : i = brN s.data.toList := by omega
      by_cases hend : brN s.data.toList = s.size
      · have HX := Lib.hid (desc_end (l := s.data.toList) (by rw [hend]; exact HL.out.1))
        generalize hB : brN s.data.toList = B at *
        subst hend
        have hlt2 : decide ((s.size : Int) < s.size) = false := by simp
        have t2 : ((s.size : Int) == s.size) = true := by simp
        by_cases h8 : 8 < s.size
        · have t1 : decide ((s.size : Int) > 8) = true := by simp; omega
          clear hB
          go_wp2_with fail
          go_ret
          exact ⟨by rw [HX.out]; rfl, Below.refl _ _⟩
        · have t1 : decide ((s.size : Int) > 8) = false := by simp; omega
          clear hB
          go_wp2_with fail
          go_ret
          exact ⟨by rw [HX.out]; rfl, Below.refl _ _⟩
      · have hlt1 : brN s.data.toList < s.size := by omega
        obtain ⟨x, hx⟩ : ∃ x : UInt8, s[brN s.data.toList]'hlt1 = x := ⟨_, rfl⟩
        obtain ⟨hget, hdrop⟩ := get_drop s hlt1 hx
        have hne := brN_at s.data.toList
        rw [hget] at hne
        have h91 : ((x.toNat : Int) == 91) = false := by
          rw [beq_eq_false_iff_ne]; intro h
          exact hne (congrArg some (UInt8.toNat_inj.1 (by show x.toNat = 91; omega)))
        have HD := Lib.hid (fun h8 => desc_at (l := s.data.toList) h8 hget)
        have hlong := Lib.hid (desc_long (l := s.data.toList))
        clear hne hget hdrop
        generalize brN s.data.toList = B at *
        have hlt2 : (B : Int) < s.size := by omega
        have t2 : ((B : Int) == s.size) = false := by rw [beq_eq_false_iff_ne]; omega
        by_cases h8 : 8 < B
        · have t1 : decide ((B : Int) > 8) = true := by simp; omega
          have HX := Lib.hid (hlong.out h8)
          clear h8
          go_wp2_with fail
          go_ret
          exact ⟨by rw [HX.out]; rfl, Below.refl _ _⟩
        · have t1 : decide ((B : Int) > 8) = false := by simp; omega
          have hD := HD.out h8
          rcases oneU_cases x with hone | ⟨hn, q1, q2, q3, q4, q5, q6⟩
          · have HX := Lib.hid (show descN s.data.toList = B + 1 by rw [hD]; rcases hone with rfl | rfl | rfl | rfl | rfl | rfl <;> rfl)
            clear hD hlong HD h8
            rcases hone with rfl | rfl | rfl | rfl | rfl | rfl
            all_goals
              go_wp2_with fail
              go_ret
              exact ⟨by rw [HX.out]; go_num, Below.refl _ _⟩
          · rw [hn] at hD
            by_cases h76 : x = 76
            · subst h76
              rw [if_neg (by decide), if_pos rfl] at hD
              have hR : (s.extract (B + 1) s.size).data.toList = s.data.toList.drop (B + 1) := from_list s (B + 1) (by omega)
              have hRs : (s.extract (B + 1) s.size).size ≤ 9223372036854775807 := by rw [ByteArray.size_extract]; omega
              have hcut := cutSemi (s.extract (B + 1) s.size) hRs wr
              rw [hR] at hcut
              have hge := indexByte_ge (s.data.toList.drop (B + 1)) 59
              have hcl : clsN s.data.toList B = if 0 ≤ indexByte (s.data.toList.drop (B + 1)) 59 ∧ classB ((s.data.toList.drop (B + 1)).take (indexByte (s.data.toList.drop (B + 1)) 59).toNat) = true then B + 1 + (indexByte (s.data.toList.drop (B + 1)) 59).toNat + 1 else 0 := rfl
              rw [hcl] at hD
              by_cases hno : indexByte (s.data.toList.drop (B + 1)) 59 = -1
              · rw [cut_none hno] at hcut
                rw [hno, if_neg (by simp)] at hD
                have HX := Lib.hid hD
                clear hD hcl hno hge hR hlong HD h8
                go_wp2_with fail
                refine hcut.mono ?_
                rintro e w1 ⟨rfl, d, rfl⟩
                clear hcut
                go_wp2_with fail
                go_ret
                exact ⟨by rw [HX.out]; rfl, low_drewN (Below.refl _ _) _⟩
              · obtain ⟨i, hi⟩ : ∃ i : Nat, indexByte (s.data.toList.drop (B + 1)) 59 = i := ⟨(indexByte (s.data.toList.drop (B + 1)) 59).toNat, by omega⟩
                rw [cut_some hi] at hcut
                have hbd := indexByte_bd (s.data.toList.drop (B + 1)) 59
                rw [hi, List.length_drop, ← HL.out.1] at hbd
                rw [hi, Int.toNat_natCast] at hD
                obtain ⟨C, hC⟩ : ∃ C : ByteArray, (⟨((s.data.toList.drop (B + 1)).take i).toArray⟩ : ByteArray) = C := ⟨_, rfl⟩
                have hCl : C.data.toList = (s.data.toList.drop (B + 1)).take i := by rw [← hC]
                have hCs : C.size = i := by rw [Lib.size_eq, hCl, List.length_take, List.length_drop, ← HL.out.1]; omega
                rw [← hCl] at hD
                have hc2 : ∀ d, Calls Tryd.prog 9 #[.string C] (wr.drewN d) _ := fun d => class_big C (by omega) (wr.drewN d) (HL.out.2.below (low_drewN (Below.refl _ _) d))
                simp only [hC] at hcut
                cases hP : classB C.data.toList with
                | false =>
                  rw [hP] at hD hc2
                  rw [if_neg (by simp)] at hD
                  have HX := Lib.hid hD
                  clear hD hcl hno hge hR hlong HD h8 hi hC hCl hP hCs
                  go_wp2_with fail
                  refine hcut.mono ?_
                  rintro e w1 ⟨rfl, d, rfl⟩
                  have hc3 := hc2 d
                  clear hcut hc2
                  go_wp2_with fail
                  refine hc3.mono ?_
                  rintro e w2 ⟨rfl, hb2⟩
                  have H2 := Lib.hid (below_next (low_drewN (Below.refl wr.heap.size wr) d) (Nat.le_refl _) hb2)
                  clear hc3 hb2
                  go_wp2_with fail
                  go_ret
                  exact ⟨by rw [HX.out]; rfl, H2.out⟩
                | true =>
                  rw [hP] at hD hc2
                  rw [if_pos ⟨by omega, rfl⟩] at hD
                  have HX := Lib.hid hD
                  clear hD hcl hno hge hR hlong HD h8 hi hC hCl hP
                  subst hCs
                  go_wp2_with fail
                  refine hcut.mono ?_
                  rintro e w1 ⟨rfl, d, rfl⟩
                  have hc3 := hc2 d
                  clear hcut hc2
                  go_wp2_with fail
                  refine hc3.mono ?_
                  rintro e w2 ⟨rfl, hb2⟩
                  have H2 := Lib.hid (below_next (low_drewN (Below.refl wr.heap.size wr) d) (Nat.le_refl _) hb2)
                  clear hc3 hb2
                  go_wp2_with fail
                  go_ret
                  exact ⟨by rw [HX.out]; go_num, H2.out⟩
            · have t7 : ((x.toNat : Int) == 76) = false := by
                rw [beq_eq_false_iff_ne]; intro h
                exact h76 (UInt8.toNat_inj.1 (by show x.toNat = 76; omega))
              rw [if_neg (by decide), if_neg h76] at hD
              have HX := Lib.hid hD
              clear hD hlong HD h8 h76
              go_wp2_with fail
              go_ret
              exact ⟨by rw [HX.out]; rfl, Below.refl _ _⟩
set_option maxHeartbeats 2000000 in
theorem desc_big (s : ByteArray) (hs : s.size ≤ 9223372036854775807) (w : World) (hmx : Mx w) : Calls Tryd.prog 13 #[.string s] w fun e w' => e = .returned (.bool (descB s.data.toList)) ∧ Below w.heap.size w w' := by
  have hd := descLen_big s hs w hmx
  have hB : descB s.data.toList = (decide (0 < descN s.data.toList) && decide (descN s.data.toList = s.size)) := by unfold descB; rw [← Lib.size_eq]
  have hle := descN_le s.data.toList
  rw [← Lib.size_eq] at hle
  rw [hB]
  generalize descN s.data.toList = n at *
  clear hB hmx
  by_cases h0 : 0 < n
  · have t1 : decide ((n : Int) > 0) = true := by simp; omega
    by_cases h1 : n = s.size
    · have t2 : ((n : Int) == s.size) = true := by simp; omega
      rw [decide_eq_true h0, decide_eq_true h1]
      clear h1
      go_enter Tryd.func13, Tryd.ntmps13
      go_wp2_with fail
      refine hd.mono ?_
      rintro e w1 ⟨rfl, hb1⟩
      have H1 := Lib.hid hb1
      clear hd hb1
      go_wp2_with fail
      go_ret
      exact ⟨rfl, H1.out⟩
    · have t2 : ((n : Int) == s.size) = false := by rw [beq_eq_false_iff_ne]; omega
      rw [decide_eq_true h0, decide_eq_false h1]
      clear h1
      go_enter Tryd.func13, Tryd.ntmps13
      go_wp2_with fail
      refine hd.mono ?_
      rintro e w1 ⟨rfl, hb1⟩
      have H1 := Lib.hid hb1
      clear hd hb1
      go_wp2_with fail
      go_ret
      exact ⟨rfl, H1.out⟩
  · have t1 : decide ((n : Int) > 0) = false := by simp; omega
    rw [decide_eq_false h0, Bool.false_and]
    go_enter Tryd.func13, Tryd.ntmps13
    go_wp2_with fail
    refine hd.mono ?_
    rintro e w1 ⟨rfl, hb1⟩
    have H1 := Lib.hid hb1
    clear hd hb1
    go_wp2_with fail
    go_ret
    exact ⟨rfl, H1.out⟩
end Go.Proofs.YtbeekjfjfcaobaaDoor
