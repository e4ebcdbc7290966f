/- Descriptors: contracts of package name's descLen and Desc and of the document's own first and Desc. Conditions: the text is no longer than 20000 bytes; the variable internal/bytealg.MaxLen has a value. -/
import Derived.Test.YtbeekjfjfcaobaaDoorMd
set_option linter.unusedVariables false
set_option maxRecDepth 100000
namespace Go.Proofs.YtbeekjfjfcaobaaDoor
open Go.RowKit Go.Lib

theorem oneU_cases (c : UInt8) : (c = 66 ∨ c = 67 ∨ c = 83 ∨ c = 90 ∨ c = 73 ∨ c = 74) ∨ (oneU c = false ∧ ((c.toNat : Int) == 66) = false ∧ ((c.toNat : Int) == 67) = false ∧ ((c.toNat : Int) == 83) = false ∧ ((c.toNat : Int) == 90) = false ∧ ((c.toNat : Int) == 73) = false ∧ ((c.toNat : Int) == 74) = false) := by
  have h : ∀ n : Nat, n < 256 → (n.toUInt8 = 66 ∨ n.toUInt8 = 67 ∨ n.toUInt8 = 83 ∨ n.toUInt8 = 90 ∨ n.toUInt8 = 73 ∨ n.toUInt8 = 74) ∨ (oneU n.toUInt8 = false ∧ ((n.toUInt8.toNat : Int) == 66) = false ∧ ((n.toUInt8.toNat : Int) == 67) = false ∧ ((n.toUInt8.toNat : Int) == 83) = false ∧ ((n.toUInt8.toNat : Int) == 90) = false ∧ ((n.toUInt8.toNat : Int) == 73) = false ∧ ((n.toUInt8.toNat : Int) == 74) = false) := by decide +kernel
  have := h c.toNat c.toNat_lt
  rwa [show c.toNat.toUInt8 = c from UInt8.toNat_inj.1 (by simp)] at this
theorem desc_long {l : List UInt8} (h : 8 < brN l) : descN l = 0 := by unfold descN; rw [if_pos h]
theorem desc_end {l : List UInt8} (h : brN l = l.length) : descN l = 0 := by
  unfold descN
  split
  · rfl
  · rw [List.getElem?_eq_none (by omega)]
theorem desc_at {l : List UInt8} {c : UInt8} (h8 : ¬8 < brN l) (h : l[brN l]? = some c) : descN l = if oneU c then brN l + 1 else if c = 76 then clsN l (brN l) else 0 := by
  unfold descN; rw [if_neg h8, h]
theorem cut_some {s : List UInt8} {i : Nat} (h : indexByte s 59 = i) : Lib.cut s [59] = (s.take i, s.drop (i + 1), true) := by
  unfold Lib.cut
  rw [index_one, h, if_pos (by omega)]; rfl
theorem cut_none {s : List UInt8} (h : indexByte s 59 = -1) : Lib.cut s [59] = (s, [], false) := by
  unfold Lib.cut
  rw [index_one, h, if_neg (by decide)]
theorem from_list (s : ByteArray) (i : Nat) (h : i ≤ s.size) : (s.extract i s.size).data.toList = s.data.toList.drop i := by
  rw [← Lib.toList_data, Lib.extract_toList]
  rw [List.take_of_length_le (by rw [List.length_drop, Lib.size_eq]; omega)]
theorem mid_list (s : ByteArray) (i j : Nat) : (s.extract i j).data.toList = (s.data.toList.drop i).take (j - i) := by
  rw [← Lib.toList_data, Lib.extract_toList]
set_option maxHeartbeats 8000000 in
theorem descLen_is (s : ByteArray) (hs : s.size ≤ 20000) (w : World) (hmx : Mx w) : Calls Tryd.prog 29 #[.string s] w fun e w' => e = .returned (.int .i64 (descN s.data.toList)) ∧ Below w.heap.size w w' := by
  have hl := Lib.size_eq s
  have hle := brN_le s.data.toList
  rw [← hl] at hle
  have HL := Lib.hid (And.intro hl hmx)
  clear hl hmx
  go_enter Tryd.func29, Tryd.ntmps29
  go_wp2_with fail
  go_loopw [3] (fun iv wr => ∃ i : Nat, i ≤ brN s.data.toList ∧ iv = .int .i64 i ∧ wr = w) (fun iv _ => s.size - (RowKit.intOf iv).toNat)
  case atStart => exact ⟨0, Nat.zero_le _, rfl, rfl⟩
  case round =>
    obtain ⟨i, hi, rfl, rfl⟩ := hrel
    by_cases hlt : i < brN s.data.toList
    · have hlt1 : i < s.size := by omega
      obtain ⟨x, hx⟩ : ∃ x : UInt8, s[i]'hlt1 = x := ⟨_, rfl⟩
      obtain ⟨hget, _⟩ := get_drop s hlt1 hx
      have h91 := brN_lt s.data.toList i hlt
      rw [hget] at h91
      injection h91 with h91
      subst h91
      have hlt2 : (i : Int) < s.size := by omega
      clear hget
      go_wp2_with fail
      go_roundw
      case rel => exact ⟨i + 1, by omega, by go_num, trivial⟩
      case measure => simp [RowKit.intOf]; omega
    · obtain rfl : i = brN s.data.toList := by omega
      by_cases hend : brN s.data.toList = s.size
      · have HX := Lib.hid (desc_end (l := s.data.toList) (by rw [hend]; exact HL.out.1))
        generalize hB : brN s.data.toList = B at *
        subst hend
        have hlt2 : decide ((s.size : Int) < s.size) = false := by simp
        have t2 : ((s.size : Int) == s.size) = true := by simp
        by_cases h8 : 8 < s.size
        · have t1 : decide ((s.size : Int) > 8) = true := by simp; omega
          clear hB
          go_wp2_with fail
          go_ret
          exact ⟨by rw [HX.out]; rfl, Below.refl _ _⟩
        · have t1 : decide ((s.size : Int) > 8) = false := by simp; omega
          clear hB
          go_wp2_with fail
          go_ret
          exact ⟨by rw [HX.out]; rfl, Below.refl _ _⟩
      · have hlt1 : brN s.data.toList < s.size := by omega
        obtain ⟨x, hx⟩ : ∃ x : UInt8, s[brN s.data.toList]'hlt1 = x := ⟨_, rfl⟩
        obtain ⟨hget, hdrop⟩ := get_drop s hlt1 hx
        have hne := brN_at s.data.toList
        rw [hget] at hne
        have h91 : ((x.toNat : Int) == 91) = false := by
          rw [beq_eq_false_iff_ne]; intro h
          exact hne (congrArg some (UInt8.toNat_inj.1 (by show x.toNat = 91; omega)))
        have HD := Lib.hid (fun h8 => desc_at (l := s.data.toList) h8 hget)
        have hlong := Lib.hid (desc_long (l := s.data.toList))
        clear hne hget hdrop
        generalize brN s.data.toList = B at *
        have hlt2 : (B : Int) < s.size := by omega
        have t2 : ((B : Int) == s.size) = false := by rw [beq_eq_false_iff_ne]; omega
        by_cases h8 : 8 < B
        · have t1 : decide ((B : Int) > 8) = true := by simp; omega
          have HX := Lib.hid (hlong.out h8)
          clear h8
          go_wp2_with fail
          go_ret
          exact ⟨by rw [HX.out]; rfl, Below.refl _ _⟩
        · have t1 : decide ((B : Int) > 8) = false := by simp; omega
          have hD := HD.out h8
          rcases oneU_cases x with hone | ⟨hn, q1, q2, q3, q4, q5, q6⟩
          · have HX := Lib.hid (show descN s.data.toList = B + 1 by rw [hD]; rcases hone with rfl | rfl | rfl | rfl | rfl | rfl <;> rfl)
            clear hD hlong HD h8
            rcases hone with rfl | rfl | rfl | rfl | rfl | rfl
            all_goals
              go_wp2_with fail
              go_ret
              exact ⟨by rw [HX.out]; go_num, Below.refl _ _⟩
          · rw [hn] at hD
            by_cases h76 : x = 76
            · subst h76
              rw [if_neg (by decide), if_pos rfl] at hD
              have hR : (s.extract (B + 1) s.size).data.toList = s.data.toList.drop (B + 1) := from_list s (B + 1) (by omega)
              have hRs : (s.extract (B + 1) s.size).size ≤ 20000 := by rw [ByteArray.size_extract]; omega
              have hcut : Calls Tryd.prog 38 #[.string (s.extract (B + 1) s.size), .string ⟨#[59]⟩] wr _ := Tryd.strings_Cut (s.extract (B + 1) s.size) ⟨#[59]⟩ HL.out.2.2.choose wr (by omega) HL.out.2.2.choose_spec
              rw [hR] at hcut
              have hge := indexByte_ge (s.data.toList.drop (B + 1)) 59
              have hcl : clsN s.data.toList B = if 0 ≤ indexByte (s.data.toList.drop (B + 1)) 59 ∧ classB ((s.data.toList.drop (B + 1)).take (indexByte (s.data.toList.drop (B + 1)) 59).toNat) = true then B + 1 + (indexByte (s.data.toList.drop (B + 1)) 59).toNat + 1 else 0 := rfl
              rw [hcl] at hD
              by_cases hno : indexByte (s.data.toList.drop (B + 1)) 59 = -1
              · rw [show (⟨#[59]⟩ : ByteArray).data.toList = [59] from rfl, cut_none hno] at hcut
                rw [hno, if_neg (by simp)] at hD
                have HX := Lib.hid hD
                clear hD hcl hno hge hR hlong HD h8
                go_wp2_with fail
                refine hcut.mono ?_
                rintro e w1 ⟨rfl, d, rfl⟩
                clear hcut
                go_wp2_with fail
                go_ret
                exact ⟨by rw [HX.out]; rfl, low_drewN (Below.refl _ _) _⟩
              · obtain ⟨i, hi⟩ : ∃ i : Nat, indexByte (s.data.toList.drop (B + 1)) 59 = i := ⟨(indexByte (s.data.toList.drop (B + 1)) 59).toNat, by omega⟩
                rw [show (⟨#[59]⟩ : ByteArray).data.toList = [59] from rfl, cut_some hi] at hcut
                have hbd := indexByte_bd (s.data.toList.drop (B + 1)) 59
                rw [hi, List.length_drop, ← HL.out.1] at hbd
                rw [hi, Int.toNat_natCast] at hD
                obtain ⟨C, hC⟩ : ∃ C : ByteArray, (⟨((s.data.toList.drop (B + 1)).take i).toArray⟩ : ByteArray) = C := ⟨_, rfl⟩
                have hCl : C.data.toList = (s.data.toList.drop (B + 1)).take i := by rw [← hC]
                have hCs : C.size = i := by rw [Lib.size_eq, hCl, List.length_take, List.length_drop, ← HL.out.1]; omega
                rw [← hCl] at hD
                have hc2 : ∀ d, Calls Tryd.prog 9 #[.string C] (wr.drewN d) _ := fun d => class_is C (by omega) (wr.drewN d) (HL.out.2.below (low_drewN (Below.refl _ _) d))
                simp only [hC] at hcut
                cases hP : classB C.data.toList with
                | false =>
                  rw [hP] at hD hc2
                  rw [if_neg (by simp)] at hD
                  have HX := Lib.hid hD
                  clear hD hcl hno hge hR hlong HD h8 hi hC hCl hP hCs
                  go_wp2_with fail
                  refine hcut.mono ?_
                  rintro e w1 ⟨rfl, d, rfl⟩
                  have hc3 := hc2 d
                  clear hcut hc2
                  go_wp2_with fail
                  refine hc3.mono ?_
                  rintro e w2 ⟨rfl, hb2⟩
                  have H2 := Lib.hid (below_next (low_drewN (Below.refl wr.heap.size wr) d) (Nat.le_refl _) hb2)
                  clear hc3 hb2
                  go_wp2_with fail
                  go_ret
                  exact ⟨by rw [HX.out]; rfl, H2.out⟩
                | true =>
                  rw [hP] at hD hc2
                  rw [if_pos ⟨by omega, rfl⟩] at hD
                  have HX := Lib.hid hD
                  clear hD hcl hno hge hR hlong HD h8 hi hC hCl hP
                  subst hCs
                  go_wp2_with fail
                  refine hcut.mono ?_
                  rintro e w1 ⟨rfl, d, rfl⟩
                  have hc3 := hc2 d
                  clear hcut hc2
                  go_wp2_with fail
                  refine hc3.mono ?_
                  rintro e w2 ⟨rfl, hb2⟩
                  have H2 := Lib.hid (below_next (low_drewN (Below.refl wr.heap.size wr) d) (Nat.le_refl _) hb2)
                  clear hc3 hb2
                  go_wp2_with fail
                  go_ret
                  exact ⟨by rw [HX.out]; go_num, H2.out⟩
            · have t7 : ((x.toNat : Int) == 76) = false := by
                rw [beq_eq_false_iff_ne]; intro h
                exact h76 (UInt8.toNat_inj.1 (by show x.toNat = 76; omega))
              rw [if_neg (by decide), if_neg h76] at hD
              have HX := Lib.hid hD
              clear hD hlong HD h8 h76
              go_wp2_with fail
              go_ret
              exact ⟨by rw [HX.out]; rfl, Below.refl _ _⟩
end Go.Proofs.YtbeekjfjfcaobaaDoor
