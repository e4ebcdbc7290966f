/- What strings.IndexRune and ContainsAny answer of the two signs that no name has, whatever the text: contracts. Condition: the text is short. What strings.ContainsAny answers of the two signs that no name has: contract. Condition: the text is shorter than 2^32 bytes. -/
import Derived.Test.YtdcpibglbanchaaDoorGa
import Derived.Test.YtdcpibglbanchaaDoorShelf
import Derived.Laws.RangeAny
import Derived.Lib.OthersKept
set_option linter.unusedVariables false
set_option maxRecDepth 100000
namespace Go.Proofs.YtdcpibglbanchaaDoor
open Go.RowKit Go.Lib

def two : ByteArray := ⟨#[0, 92]⟩
theorem enc_high {r : Int} (h : 128 ≤ r) : 2 ≤ (Utf8.encode r).size ∧ (Utf8.encode r).size ≤ 4 ∧ ∃ y : UInt8, (Utf8.encode r).data.toList[(Utf8.encode r).size - 1]? = some y ∧ 128 ≤ y.toNat := by
  unfold Utf8.encode
  have hc : 128 ≤ (if Utf8.valid r then r.toNat else Utf8.runeError) := by
    split
    · omega
    · decide
  generalize (if Utf8.valid r then r.toNat else Utf8.runeError) = c at *
  simp only
  rw [if_neg (by omega)]
  split
  · refine ⟨Nat.le_refl 2, by show 2 ≤ 4; omega, _, rfl, ?_⟩
    simp; omega
  · split
    · refine ⟨by show 2 ≤ 3; omega, by show 3 ≤ 4; omega, _, rfl, ?_⟩
      simp; omega
    · refine ⟨by show 2 ≤ 4; omega, Nat.le_refl 4, _, rfl, ?_⟩
      simp; omega
theorem conv_rune (r : Int) (W : World) : (convert 21 9 (.int .i32 r)).run Tryd.prog W = .ok (.string (Utf8.encode r)) W := by
  simp [convert, run_underlying Tryd.underlying21, run_underlying Tryd.underlying9, Conv.intToString]
theorem iter_below (w : World) (s : ByteArray) (i : Nat) : Below w.heap.size w (w.iter s i) := by
  unfold World.iter
  exact (Below.refl _ _).alloc (Nat.le_refl _) _
set_option maxHeartbeats 8000000 in
theorem irHigh (r : Int) (h : 128 ≤ r ∧ r ≤ 2147483647) (w : World) : Calls Tryd.prog 69 #[.string two, .int .i32 r] w fun e w' => e = .returned (.int .i64 (-1)) ∧ Below w.heap.size w w' := by
  have hn : ¬ (r < 128) := by omega
  have h0 : (0 : Int) ≤ r := by omega
  by_cases he : r = 65533
  · subst he
    go_enter Tryd.func69, Tryd.ntmps69
    go_wp2_with fail
    go_loopg [5, 6] 2 (fun g _ _ wx => ∃ i : Nat, i + g = 2 ∧ wx = w.iter two i)
    case atStart => exact ⟨0, rfl, rfl⟩
    case round =>
      obtain ⟨i, hig, rfl⟩ := hrel
      cases gk with
      | zero =>
        obtain rfl : i = 2 := by omega
        have hnx := run_next_end (P := Tryd.prog) w two 2
        have hnx := fun ty => hnx ty (by decide)
        go_wp2_with fail
        go_ret
        exact ⟨rfl, iter_below w _ _⟩
      | succ g =>
        have hi : i < two.size := by show i < 2; omega
        have hlow : (two[i]'hi).toNat < 128 := by
          rcases (by omega : i = 0 ∨ i = 1) with rfl | rfl
          · exact (by decide : (two[0]'(by decide)).toNat < 128)
          · exact (by decide : (two[1]'(by decide)).toNat < 128)
        have hnx := fun ty => run_next_ascii (P := Tryd.prog) w two i ty hi hlow
        have hne : (((two[i]'hi).toNat : Int) == 65533) = false := by simp; omega
        generalize two[i]'hi = x at *
        go_wp2_with fail
        go_roundg g
        case measure => omega
        case rel => exact ⟨i + 1, by omega, rfl⟩
  · have t1 : (r == 65533) = false := by simp [he]
    have hv := Tryd.utf8_ValidRune r w
    cases hvb : Lib.validRune r with
    | false =>
      rw [hvb] at hv
      clear hvb he
      go_enter Tryd.func69, Tryd.ntmps69
      go_wp2_with fail
      refine hv.mono ?_
      rintro e w' ⟨rfl, rfl⟩
      clear hv
      go_wp2_with fail
      go_ret
      exact ⟨rfl, Below.refl _ _⟩
    | true =>
      rw [hvb] at hv
      clear hvb he
      have hcv := fun W => conv_rune r W
      obtain ⟨e1, e2, y, e3, e4⟩ := enc_high h.1
      generalize Utf8.encode r = rs at *
      by_cases h2 : rs.size = 2
      · rw [h2] at e3
        have e3' : rs.data.toList[1]? = some y := e3
        have i2 : IntKind.i64.wrap 2 = 2 := by decide
        have hr1 : 128 ≤ (rs[1]'(by omega)).toNat := by
          have := Lib.data_getElem? rs 1 (by omega)
          rw [e3'] at this
          injection this with this
          rw [← this]; exact e4
        have q1 : (two[1]'(by decide)).toNat = 92 := by decide
        have ib0 : ∀ (W : World) (cc : Int), Calls Tryd.prog 81 #[.string ByteArray.empty, .int .u8 cc] W fun e w' => e = .returned (.int .i64 (-1)) ∧ W = w' := fun W cc => (Tryd.strings_IndexByte ByteArray.empty cc W).mono fun e w' ⟨h1, h2⟩ => ⟨h1, h2.symm⟩
        have hsl : ∀ W, (Instr.sliceAt 9 (.string two) (some (.int .i64 2)) none none).run Tryd.prog W = .ok (.string ByteArray.empty) W := fun W => by kernel_rfl
        have hsl2 : ∀ W, (Instr.slice 9 (.string two) (some (.int .i64 2)) none none).run Tryd.prog W = .ok (.string ByteArray.empty) W := fun W => by kernel_rfl
        clear e3 e1 e2
        go_enter Tryd.func69, Tryd.ntmps69
        go_wp2_with fail
        refine hv.mono ?_
        rintro e w' ⟨rfl, hw⟩
        rw [hw]
        clear hv hw
        go_wp2_with fail
        go_step3
        go_wp2_with fail
        go_loopw [9, 10] (fun i f wr => i = .int .i64 1 ∧ f = .int .i64 0 ∧ wr = w) (fun _ _ _ => 0)
        case atStart => exact ⟨rfl, rfl, rfl⟩
        case round =>
          obtain ⟨rfl, rfl, rfl⟩ := hrel
          have hne : ((92 : Int) != (y.toNat : Int)) = true := by simp; omega
          go_wp2_with fail
          go_step3
          go_wp2_with fail
          go_quiet (fail)
          go_wp2_with fail
          go_quiet ((go_at_call 81; first | exact q_left2 (ib0 _ _) | exact q_left3 (ib0 _ _)))
          go_wp2_with fail
          refine (show bodyPost Tryd.prog Tryd.f69 (fun e w'' => e = .returned (.int .i64 (-1)) ∧ Below wr.heap.size wr w'') .ret _ _ from ?_)
          go_ret
          exact ⟨rfl, low_drewN (Below.refl _ _) _⟩
      · have hd : decide ((rs.size : Int) - 1 < 2) = false := by simp; omega
        go_enter Tryd.func69, Tryd.ntmps69
        go_wp2_with fail
        refine hv.mono ?_
        rintro e w' ⟨rfl, hw⟩
        rw [hw]
        clear hv hw
        go_wp2_with fail
        go_step3
        go_wp2_with fail
        go_loopw [9, 10] (fun i f wr => i = .int .i64 ((rs.size : Int) - 1) ∧ f = .int .i64 0 ∧ wr = w) (fun _ _ _ => 0)
        case atStart => exact ⟨rfl, rfl, rfl⟩
        case round =>
          obtain ⟨rfl, rfl, rfl⟩ := hrel
          have hd2 : ¬ ((rs.size : Int) - 1 < 2) := by omega
          go_wp2_with fail
          go_ret
          exact ⟨rfl, Below.refl _ _⟩
end Go.Proofs.YtdcpibglbanchaaDoor

set_option linter.unusedVariables false
set_option maxRecDepth 100000
namespace Go.Proofs.YtdcpibglbanchaaDoor
open Go.RowKit Go.Lib

/-- a rune above 127 is made of bytes above 127 -/
theorem dec_bytes (s : ByteArray) (i : Nat) (h : i < s.size) (ha : 128 ≤ (s[i]'h).toNat) : ∀ j, j < (Utf8.decode s i).2 → i + j < s.size ∧ 128 ≤ (s.get! (i + j)).toNat := by
  have hn : ¬ (s[i]'h).toNat < 128 := by omega
  have h0 : i + 0 < s.size ∧ 128 ≤ (s.get! (i + 0)).toNat := ⟨h, by rw [get_at s i h]; exact ha⟩
  have hc : ∀ k, (decide (i + k < s.size) && (s.get! (i + k)).toNat / 64 == 2) = true → i + k < s.size ∧ 128 ≤ (s.get! (i + k)).toNat := fun k hk => by
    simp only [Bool.and_eq_true, decide_eq_true_eq, beq_iff_eq] at hk
    omega
  intro j hj
  simp only [Utf8.decode, get_at s i h, hn, if_false] at hj
  split at hj
  · rename_i hcond
    rw [Bool.and_eq_true] at hcond
    have c1 := hc 1 hcond.2
    split at hj
    · rcases (by simp at hj; omega : j = 0 ∨ j = 1) with rfl | rfl
      · exact h0
      · exact c1
    · obtain rfl : j = 0 := by simp at hj; omega
      exact h0
  · split at hj
    · rename_i hcond
      rw [Bool.and_eq_true, Bool.and_eq_true] at hcond
      have c1 := hc 1 hcond.1.2
      have c2 := hc 2 hcond.2
      split at hj
      · rcases (by simp at hj; omega : j = 0 ∨ j = 1 ∨ j = 2) with rfl | rfl | rfl
        · exact h0
        · exact c1
        · exact c2
      · obtain rfl : j = 0 := by simp at hj; omega
        exact h0
    · split at hj
      · rename_i hcond
        rw [Bool.and_eq_true, Bool.and_eq_true, Bool.and_eq_true] at hcond
        have c1 := hc 1 hcond.1.1.2
        have c2 := hc 2 hcond.1.2
        have c3 := hc 3 hcond.2
        split at hj
        · rcases (by simp at hj; omega : j = 0 ∨ j = 1 ∨ j = 2 ∨ j = 3) with rfl | rfl | rfl | rfl
          · exact h0
          · exact c1
          · exact c2
          · exact c3
        · obtain rfl : j = 0 := by simp at hj; omega
          exact h0
      · obtain rfl : j = 0 := by simp at hj; omega
        exact h0
theorem two_high {b : UInt8} (h : 128 ≤ b.toNat) : ([0, 92] : List UInt8).contains b = false := by
  have e0 : (b == 0) = false := by rw [beq_eq_false_iff_ne]; intro e; rw [e] at h; exact absurd h (by decide)
  have e1 : (b == 92) = false := by rw [beq_eq_false_iff_ne]; intro e; rw [e] at h; exact absurd h (by decide)
  simp [List.contains, List.elem, e0, e1]
theorem noAny_high {s : ByteArray} {i : Nat} (hno : NoAny s.data.toList [0, 92] i) (h : i < s.size) (ha : 128 ≤ (s[i]'h).toNat) : NoAny s.data.toList [0, 92] (i + (Utf8.decode s i).2) ∧ i + (Utf8.decode s i).2 ≤ s.size := by
  have hd := dec_bytes s i h ha
  refine ⟨fun j b hj hb => ?_, ?_⟩
  · by_cases hji : j < i
    · exact hno j b hji hb
    · obtain ⟨k, rfl⟩ : ∃ k, j = i + k := ⟨j - i, by omega⟩
      obtain ⟨h1, h2⟩ := hd k (by omega)
      have e := Lib.data_getElem? s (i + k) h1
      rw [hb] at e
      injection e with e
      have g := get_at s (i + k) h1
      rw [Nat.add_zero] at g
      rw [g, ← e] at h2
      exact two_high h2
  · have h1 := (decode_high s i h ha).2
    obtain ⟨k, hk⟩ : ∃ k, (Utf8.decode s i).2 = k + 1 := ⟨(Utf8.decode s i).2 - 1, by omega⟩
    have := (hd k (by omega)).1
    omega
theorem low_iterAt {B : Nat} {a w : World} (h : Below B a w) {k : Nat} (hk : B ≤ k) (s : ByteArray) (pos : Nat) : Below B a (w.iterAt k s pos) := by
  refine ⟨h.os, h.tape, h.output, by simpa [World.iterAt] using h.size, fun i hi => ?_⟩
  have : (w.iterAt k s pos).heap[i]? = w.heap[i]? := by
    simp only [World.iterAt]
    rw [Array.getElem?_setIfInBounds_ne (by omega)]
  rw [this]; exact h.block i hi
set_option maxHeartbeats 8000000 in
theorem anyShort (s : ByteArray) (h8 : s.size ≤ 8) (w : World) : Calls Tryd.prog 55 #[.string s, .string two] w fun e w' => e = .returned (.int .i64 (Lib.indexAny s.data.toList [0, 92])) ∧ Below w.heap.size w w' := by
  have h8z : decide ((8 : Int) < (s.size : Int)) = false := decide_eq_false (by omega)
  have hsh := Tryd.strings_shouldUseASCIISet (s.size : Int) w
  rw [h8z] at hsh
  have hemp : two.toList.isEmpty = false := by rw [Lib.toList_data]; rfl
  have hs2 : two.size = 2 := rfl
  have hn1 : ((two.size : Int) == 1) = false := by rw [hs2]; rfl
  go_enter Tryd.func55, Tryd.ntmps55
  go_wp2_with fail
  refine hsh.mono ?_
  rintro e w' ⟨rfl, hw⟩
  rw [hw]
  clear hsh hw hs2 hn1 hemp
  go_wp2_with fail
  go_loopg [9, 10] s.size (fun g _ _ wx => ∃ i : Nat, i ≤ s.size ∧ s.size ≤ i + g ∧ Hid (NoAny s.data.toList [0, 92] i ∧ wx.heap[w.heap.size]? = some (.stringIter s i) ∧ Below w.heap.size w wx))
  case atStart => exact ⟨0, Nat.zero_le _, by omega, Lib.hid ⟨Lib.NoAny.zero _ _, heap_alloc_new w _, iter_below w _ _⟩⟩
  case round =>
    obtain ⟨i, hi, hig, HQ⟩ := hrel
    by_cases hlt : i < s.size
    · obtain ⟨g', rfl⟩ : ∃ g', gk = g' + 1 := ⟨gk - 1, by omega⟩
      have hit := HQ.out.2.1
      have hk := blk_lt hit
      by_cases hlow : (s[i]'hlt).toNat < 128
      · have hnx := fun ty => run_next_ascii_at (P := Tryd.prog) wr w.heap.size s i ty hit hlt hlow
        obtain ⟨x, hx⟩ : ∃ x : UInt8, s[i]'hlt = x := ⟨_, rfl⟩
        have hxl : s.data.toList[i]? = some x := by rw [← hx]; exact Lib.data_getElem? s i hlt
        rw [hx] at hlow hnx
        have hir := Tryd.strings_IndexRune_ascii two (x.toNat : Int) (wr.iterAt w.heap.size s (i + 1)) (by omega) (by omega)
        have hback : ((x.toNat : Int)).toNat.toUInt8 = x := by simp
        rw [hback] at hir
        have hcon := Lib.contains_iff_indexByte two.data.toList x
        have HX := Lib.hid (And.intro hxl (low_iterAt HQ.out.2.2 (Nat.le_refl _) s (i + 1)))
        have HI := Lib.hid (Lib.iterAt_heap wr w.heap.size s i (i + 1) hit)
        clear hx hxl hback hit
        cases hin : ([0, 92] : List UInt8).contains x with
        | true =>
          have hge : (0 : Int) ≤ Lib.indexByte two.data.toList x := of_decide_eq_true (hcon.symm.trans hin)
          have HN := Lib.hid (And.intro HQ.out.1 hin)
          clear hcon hin
          generalize Lib.indexByte two.data.toList x = k at *
          go_wp2_with fail
          refine hir.mono ?_
          rintro e w' ⟨rfl, hw⟩
          rw [hw]
          clear hir hw hnx
          go_wp2_with fail
          go_ret
          exact ⟨by rw [Lib.indexAny_hit HN.out.1 HX.out.1 HN.out.2]; rfl, HX.out.2⟩
        | false =>
          have hge : ¬ (0 : Int) ≤ Lib.indexByte two.data.toList x := of_decide_eq_false (hcon.symm.trans hin)
          have HN := Lib.hid (HQ.out.1.succ HX.out.1 hin)
          clear hcon hin
          generalize Lib.indexByte two.data.toList x = k at *
          go_wp2_with fail
          refine hir.mono ?_
          rintro e w' ⟨rfl, hw⟩
          rw [hw]
          clear hir hw hnx
          go_wp2_with fail
          go_roundg g'
          case measure => omega
          case rel => exact ⟨i + 1, by omega, by omega, Lib.hid ⟨HN.out, HI.out, HX.out.2⟩⟩
      · have hnx := fun ty => run_next_any_at (P := Tryd.prog) wr w.heap.size s i ty hit hlt
        obtain ⟨r1, r2⟩ := decode_high s i hlt (by omega)
        have r3 := decode_le s i
        obtain ⟨n1, n2⟩ := noAny_high HQ.out.1 hlt (by omega)
        obtain ⟨rr, hrr⟩ : ∃ rr, (Utf8.decode s i).1 = rr := ⟨_, rfl⟩
        obtain ⟨wd, hwd⟩ : ∃ wd, (Utf8.decode s i).2 = wd := ⟨_, rfl⟩
        rw [hrr] at r1 r3
        rw [hwd] at r2 n1 n2
        rw [hrr, hwd] at hnx
        have hir := irHigh (rr : Int) ⟨by omega, by omega⟩ (wr.iterAt w.heap.size s (i + wd))
        have HI := Lib.hid (And.intro (Lib.iterAt_heap wr w.heap.size s i (i + wd) hit) (And.intro (low_iterAt HQ.out.2.2 (Nat.le_refl _) s (i + wd)) n1))
        clear hit hrr hwd n1 HQ
        go_wp2_with fail
        refine hir.mono ?_
        rintro e w' ⟨rfl, hbw⟩
        have HW : Hid (NoAny s.data.toList [0, 92] (i + wd) ∧ w'.heap[w.heap.size]? = some (.stringIter s (i + wd)) ∧ Below w.heap.size w w') := Lib.hid ⟨HI.out.2.2, (hbw.block _ (blk_lt HI.out.1)).trans HI.out.1, below_next HI.out.2.1 (Nat.le_refl _) hbw⟩
        clear hir hnx hbw HI
        go_wp2_with fail
        go_roundg g'
        case measure => omega
        case rel => exact ⟨i + wd, n2, by omega, HW⟩
    · obtain rfl : i = s.size := by omega
      have hnx := fun ty => run_next_end_at (P := Tryd.prog) wr w.heap.size s s.size ty HQ.out.2.1 (Nat.lt_irrefl _)
      go_wp2_with fail
      go_ret
      exact ⟨by rw [Lib.indexAny_none (by rw [← Lib.size_eq]; exact HQ.out.1)]; rfl, HQ.out.2.2⟩
theorem anyTwo (s : ByteArray) (hs : s.size < 4294967281) (w : World) : Calls Tryd.prog 55 #[.string s, .string two] w fun e w' => e = .returned (.int .i64 (Lib.indexAny s.data.toList [0, 92])) ∧ Below w.heap.size w w' := by
  by_cases h8 : s.size ≤ 8
  · exact anyShort s h8 w
  · refine (Tryd.strings_IndexAny_long (fun w => by kernel_rfl) s two w (by decide) (by omega) hs (by decide) (fun j b hb => ?_)).mono ?_
    · match j, hb with
      | 0, hb => injection hb with hb; subst hb; decide
      | 1, hb => injection hb with hb; subst hb; decide
      | n + 2, hb => cases hb
    · rintro e w' ⟨rfl, rfl⟩
      exact ⟨rfl, ((Below.refl _ _).alloc (Nat.le_refl _) _).alloc (by simp) _⟩
theorem containsTwo (s : ByteArray) (hs : s.size < 4294967281) (w : World) : Calls Tryd.prog 40 #[.string s, .string two] w fun e w' => e = .returned (.bool (Lib.containsAny s.data.toList [0, 92])) ∧ Below w.heap.size w w' := by
  have c := anyTwo s hs w
  unfold Lib.containsAny
  go_enter Tryd.func40, Tryd.ntmps40
  go_wp2_with fail
  refine c.mono ?_
  rintro e w' ⟨rfl, hb⟩
  clear c
  go_wp2_with fail
  go_ret
  exact ⟨rfl, hb⟩
end Go.Proofs.YtdcpibglbanchaaDoor
