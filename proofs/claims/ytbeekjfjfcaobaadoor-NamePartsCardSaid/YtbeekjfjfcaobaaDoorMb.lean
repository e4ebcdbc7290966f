/- Names of classes: contracts of package name's isPlain and Class and of the document's own plain and Class. Conditions: the text is no longer than 20000 bytes; the variable internal/bytealg.MaxLen has a value. -/
import Derived.Test.YtbeekjfjfcaobaaDoorMa
import Derived.Test.YtbeekjfjfcaobaaDoorShelf
set_option linter.unusedVariables false
set_option maxRecDepth 100000
namespace Go.Proofs.YtbeekjfjfcaobaaDoor
open Go.RowKit Go.Lib

theorem get_drop (s : ByteArray) {i : Nat} (h : i < s.size) {x : UInt8} (hx : s[i]'h = x) : s.data.toList[i]? = some x ∧ s.data.toList.drop i = x :: s.data.toList.drop (i + 1) := by
  have hget : s.data.toList[i]? = some x := by rw [← hx]; exact Lib.data_getElem? s i h
  exact ⟨hget, (List.drop_eq_getElem?_toList_append).trans (by rw [hget]; rfl)⟩
theorem u8_int (x : UInt8) : ((x.toNat : Nat) : Int).toNat.toUInt8 = x := by
  rw [Int.toNat_natCast]
  exact UInt8.toNat_inj.1 (by simp)
theorem plain_no1 {x : UInt8} (h : x.toNat ≤ 32) : plainU x = false := by unfold plainU; rw [decide_eq_false (by omega)]; rfl
theorem plain_no2 {x : UInt8} (h : ¬indexByte neverL x = -1) : plainU x = false := by unfold plainU; rw [decide_eq_false h, Bool.and_false]
theorem plain_yes {x : UInt8} (h : ¬x.toNat ≤ 32) (h2 : indexByte neverL x = -1) : plainU x = true := by unfold plainU; rw [decide_eq_true h2, decide_eq_true (by omega)]; rfl
theorem indexNever (x : UInt8) (w : World) : Calls Tryd.prog 28 #[.string ⟨#[46, 59, 91, 92, 40, 41, 60, 62, 127]⟩, .int .u8 (x.toNat : Nat)] w fun e w' => e = .returned (.int .i64 (indexByte neverL x)) ∧ w' = w := by
  have h := Tryd.strings_IndexByte ⟨#[46, 59, 91, 92, 40, 41, 60, 62, 127]⟩ ((x.toNat : Nat) : Int) w
  rw [u8_int] at h
  exact h
set_option maxHeartbeats 4000000 in
theorem isPlain_is (s : ByteArray) (hs : s.size ≤ 20000) (w : World) : Calls Tryd.prog 25 #[.string s] w fun e w' => e = .returned (.bool (s.data.toList.all plainU)) ∧ w' = w := by
  have HL := Lib.hid (Lib.size_eq s)
  go_enter Tryd.func25, Tryd.ntmps25
  go_wp2_with fail
  go_loopw [6] (fun iv wr => ∃ i : Nat, i ≤ s.size ∧ iv = .int .i64 i ∧ wr = w ∧ Hid (s.data.toList.all plainU = (s.data.toList.drop i).all plainU)) (fun iv _ => s.size - (RowKit.intOf iv).toNat)
  case atStart => exact ⟨0, Nat.zero_le _, rfl, rfl, Lib.hid (by rw [List.drop_zero])⟩
  case round =>
    obtain ⟨i, hi, rfl, rfl, HR⟩ := hrel
    by_cases hlt : i < s.size
    · obtain ⟨x, hx⟩ : ∃ x : UInt8, s[i]'hlt = x := ⟨_, rfl⟩
      obtain ⟨hget, hdrop⟩ := get_drop s hlt hx
      rw [hdrop, List.all_cons] at HR
      have hlt2 : (i : Int) < s.size := by omega
      clear hget hdrop
      by_cases h32 : x.toNat ≤ 32
      · have t1 : decide ((x.toNat : Int) ≤ 32) = true := by simp; omega
        have HX := Lib.hid (plain_no1 h32)
        clear h32
        go_wp2_with fail
        go_ret
        exact ⟨by rw [HR.out, HX.out]; rfl, rfl⟩
      · have t1 : decide ((x.toNat : Int) ≤ 32) = false := by simp; omega
        have hib := indexNever x wr
        by_cases hn : indexByte neverL x = -1
        · rw [hn] at hib
          have HX := Lib.hid (plain_yes h32 hn)
          clear h32 hn
          go_wp2_with fail
          refine hib.mono ?_
          rintro e w1 ⟨rfl, rfl⟩
          clear hib
          go_wp2_with fail
          go_roundw
          case rel => exact ⟨i + 1, by omega, by go_num, trivial, Lib.hid (by rw [HR.out, HX.out, Bool.true_and])⟩
          case measure => simp [RowKit.intOf]; omega
        · have hge := indexByte_ge neverL x
          obtain ⟨j, hj⟩ : ∃ j : Nat, indexByte neverL x = j := ⟨(indexByte neverL x).toNat, by omega⟩
          have HX := Lib.hid (plain_no2 hn)
          rw [hj] at hib
          have t2 : decide ((j : Int) ≥ 0) = true := by simp
          clear h32 hn hge hj
          go_wp2_with fail
          refine hib.mono ?_
          rintro e w1 ⟨rfl, rfl⟩
          clear hib
          go_wp2_with fail
          go_ret
          exact ⟨by rw [HR.out, HX.out]; rfl, rfl⟩
    · obtain rfl : s.size = i := by omega
      have hend : (s.data.toList.drop s.size).all plainU = true := by rw [List.drop_eq_nil_of_le (by rw [HL.out]; exact Nat.le_refl _)]; rfl
      have HE := Lib.hid (HR.out.trans hend)
      clear hend HR
      go_wp2_with fail
      go_ret
      exact ⟨by rw [HE.out]; rfl, rfl⟩
/-- the parts of a text -/
def partsS (s : ByteArray) : List ByteArray := Lib.splitB slash 0 (Lib.countB s slash) s
theorem partsS_pcs (s : ByteArray) : (partsS s).map (·.toList) = pcs s.data.toList := by
  have := split_pcs s.size s (Nat.le_refl _)
  rw [Lib.toList_data] at this; exact this
theorem partsS_len (s : ByteArray) : (partsS s).length = Lib.countB s slash + 1 := Lib.splitB_all slash (by decide) 0 _ _ rfl
def neP (x : ByteArray) : Bool := decide (x.toList ≠ [])
theorem partsS_all (s : ByteArray) : (partsS s).all neP = (pcs s.data.toList).all (fun p => decide (p ≠ [])) := by
  rw [← partsS_pcs, List.all_map]; rfl
theorem all_take {α : Type} {p : α → Bool} {l : List α} {k : Nat} (h : k < l.length) (ha : (l.take k).all p = true) : (l.take (k + 1)).all p = p l[k] := by
  rw [List.take_succ_eq_append_getElem h, List.all_append, ha]; simp
theorem all_cut {α : Type} {p : α → Bool} {l : List α} {k : Nat} (h : k < l.length) (hk : p l[k] = false) : l.all p = false := by
  rw [List.all_eq_false]
  exact ⟨l[k], List.getElem_mem h, by simp [hk]⟩
theorem classB_is (s : ByteArray) : classB s.data.toList = (decide (s.size ≤ 58) && s.data.toList.all plainU && (partsS s).all neP) := by
  unfold classB; rw [← Lib.size_eq, partsS_all]
set_option maxHeartbeats 8000000 in
theorem class_is (s : ByteArray) (hs : s.size ≤ 20000) (w : World) (hmx : Mx w) : Calls Tryd.prog 9 #[.string s] w fun e w' => e = .returned (.bool (classB s.data.toList)) ∧ Below w.heap.size w w' := by
  have hN := classB_is s
  by_cases h58 : s.size ≤ 58
  · have t1 : decide ((s.size : Int) > 58) = false := by simp; omega
    rw [decide_eq_true h58, Bool.true_and] at hN
    have hpl := isPlain_is s hs w
    cases hP : s.data.toList.all plainU with
    | false =>
      rw [hP, Bool.false_and] at hN
      rw [hN]
      rw [hP] at hpl
      clear hN hP h58
      go_enter Tryd.func9, Tryd.ntmps9
      go_wp2_with fail
      refine hpl.mono ?_
      rintro e w1 ⟨rfl, rfl⟩
      clear hpl
      go_wp2_with fail
      go_ret
      exact ⟨rfl, Below.refl _ _⟩
    | true =>
      rw [hP, Bool.true_and] at hN
      rw [hN]
      rw [hP] at hpl
      have hlen := partsS_len s
      have hsp : ∀ W, Mx W → Calls Tryd.prog 26 #[.string s, .string slash] W fun e w' => e = .returned (.slice (some ⟨W.heap.size, 0, none⟩) (partsS s).length (partsS s).length) ∧ w' = W.alloc (.cells ((partsS s).map Value.string).toArray 9) := fun W ⟨_, m, hm⟩ => by
        rw [hlen]
        unfold partsS
        exact Tryd.strings_Split s slash m W (by omega) hm (by decide)
      have hmaxl : (partsS s).length ≤ 100 := by rw [hlen]; have := Lib.countB_le slash (by decide) s.size s (Nat.le_refl _); omega
      have hs1 := hsp w hmx
      generalize partsS s = P at *
      clear hN hP h58 hlen hsp
      go_enter Tryd.func9, Tryd.ntmps9
      go_wp2_with fail
      refine hpl.mono ?_
      rintro e w1 ⟨rfl, rfl⟩
      clear hpl
      go_wp2_with fail
      refine hs1.mono ?_
      rintro e w3 ⟨rfl, hw3⟩
      have hcell : ∀ (j : Nat) x, P[j]? = some x → w3.cell? ⟨w1.heap.size, j, none⟩ = some (.string x) := fun j x hx => by
        rw [hw3]; exact Lib.pieces_cell_at w1 P _ j x hx
      have hb3 : Below w1.heap.size w1 w3 := by rw [hw3]; exact (Below.refl _ _).alloc (Nat.le_refl _) _
      have HB := Lib.hid hb3
      clear hs1 hb3 hw3
      go_wp2_with fail
      go_loopw [16] (fun i wr => ∃ k : Nat, k ≤ P.length ∧ i = .int .i64 k ∧ wr = w3 ∧ Hid ((P.take k).all neP = true)) (fun i _ => P.length - (RowKit.intOf i).toNat)
      case atStart => exact ⟨0, Nat.zero_le _, rfl, rfl, Lib.hid rfl⟩
      case round =>
        obtain ⟨k, hk, rfl, rfl, HA⟩ := hrel
        by_cases hlt : k < P.length
        · have hc1 := hcell k _ (List.getElem?_eq_getElem hlt)
          obtain ⟨x, hx⟩ : ∃ x, P[k] = x := ⟨_, rfl⟩
          rw [hx] at hc1
          have hcut : Hid (x.toList = [] → P.all neP = false) := Lib.hid fun h => all_cut hlt (by rw [hx]; unfold neP; simp [h])
          have hgo : Hid (¬x.toList = [] → (P.take (k + 1)).all neP = true) := Lib.hid fun h => by rw [all_take hlt HA.out, hx]; unfold neP; simp [h]
          have HC := Lib.hid hcell
          clear hx hcell
          by_cases h1 : x.toList = []
          · have t2 : (x.toList == []) = true := by rw [h1]; rfl
            have HX := Lib.hid (hcut.out h1)
            go_wp2_with fail
            go_ret
            exact ⟨by rw [HX.out]; rfl, HB.out⟩
          · have t2 : (x.toList == []) = false := by rw [beq_eq_false_iff_ne]; exact h1
            have t3 : x.toList.isEmpty = false := by rw [List.isEmpty_eq_false_iff]; exact h1
            have HX := Lib.hid (hgo.out h1)
            go_wp2_with fail
            go_roundw
            case rel => exact ⟨k + 1, by omega, by go_num, trivial, HX⟩
            case measure => simp [RowKit.intOf]; omega
        · obtain rfl : P.length = k := by omega
          go_wp2_with fail
          go_ret
          exact ⟨by have := HA.out; rw [List.take_length] at this; rw [this]; rfl, HB.out⟩
  · have t1 : decide ((s.size : Int) > 58) = true := by simp; omega
    rw [decide_eq_false h58, Bool.false_and, Bool.false_and] at hN
    rw [hN]
    clear hN h58
    go_enter Tryd.func9, Tryd.ntmps9
    go_wp2_with fail
    go_ret
    exact ⟨rfl, Below.refl _ _⟩
end Go.Proofs.YtbeekjfjfcaobaaDoor
