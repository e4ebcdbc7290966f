/- What texts are names: contract of archive's Name. Condition: the variable internal/bytealg.MaxLen has a value. -/
import Derived.Test.YtdcpibglbanchaaDoorNb
import Derived.Shelf.Strings.PiecesUse
import Derived.Lib.SplitLaws
set_option linter.unusedVariables false
set_option maxRecDepth 100000
namespace Go.Proofs.YtdcpibglbanchaaDoor
open Go.RowKit Go.Lib

/-- the variable has a value -/
def Mx (w : World) : Prop := 1 < w.heap.size ∧ ∃ m : Int, w.cell? ⟨1, 0, none⟩ = some (.int .i64 m)
theorem Mx.below {w w' : World} (h : Mx w) (hb : Below w.heap.size w w') : Mx w' := by
  obtain ⟨h1, m, h2⟩ := h
  exact ⟨Nat.lt_of_lt_of_le h1 hb.size, m, (hb.cell (p := ⟨1, 0, none⟩) h1).trans h2⟩
def slash : ByteArray := ⟨#[47]⟩
/-- the parts of a text, without a last sign that ends it -/
def partsB (s : ByteArray) : List ByteArray := Lib.splitB slash 0 (Lib.countB ⟨(Lib.trimSuffix s.data.toList [47]).toArray⟩ slash) ⟨(Lib.trimSuffix s.data.toList [47]).toArray⟩
/-- may a part stand in a name? -/
def okP (x : ByteArray) : Bool := !(decide (x.toList = []) || decide (x.toList = [46]) || decide (x.toList = [46, 46]))
/-- is a text a name? -/
def nameB (s : ByteArray) : Bool := !(s.toList.isEmpty || decide (64 < s.size) || Lib.containsAny s.data.toList [0, 92]) && (partsB s).all okP
theorem parts_len (s : ByteArray) : (partsB s).length = Lib.countB ⟨(Lib.trimSuffix s.data.toList [47]).toArray⟩ slash + 1 := Lib.splitB_all slash (by decide) 0 _ _ rfl
theorem trim_size (s : ByteArray) : (⟨(Lib.trimSuffix s.data.toList [47]).toArray⟩ : ByteArray).size ≤ s.size := by
  show (Lib.trimSuffix s.data.toList [47]).toArray.size ≤ _
  rw [List.size_toArray, Lib.size_eq]
  unfold Lib.trimSuffix
  split
  · rw [List.length_take]; omega
  · exact Nat.le_refl _
theorem count_le (s : ByteArray) : Lib.countB ⟨(Lib.trimSuffix s.data.toList [47]).toArray⟩ slash ≤ s.size :=
  Nat.le_trans (Lib.countB_le slash (by decide) _ _ (Nat.le_refl _)) (trim_size s)
theorem okP_0 {x : ByteArray} (h : x.toList = []) : okP x = false := by unfold okP; rw [decide_eq_true h]; rfl
theorem okP_1 {x : ByteArray} (h : x.toList = [46]) : okP x = false := by unfold okP; rw [decide_eq_true h, Bool.or_true]; rfl
theorem okP_2 {x : ByteArray} (h : x.toList = [46, 46]) : okP x = false := by unfold okP; rw [decide_eq_true h, Bool.or_true]; rfl
theorem okP_3 {x : ByteArray} (h1 : ¬x.toList = []) (h2 : ¬x.toList = [46]) (h3 : ¬x.toList = [46, 46]) : okP x = true := by unfold okP; rw [decide_eq_false h1, decide_eq_false h2, decide_eq_false h3]; rfl
theorem all_take {α : Type} {p : α → Bool} {l : List α} {k : Nat} (h : k < l.length) (ha : (l.take k).all p = true) : (l.take (k + 1)).all p = p l[k] := by
  rw [List.take_succ_eq_append_getElem h, List.all_append, ha]; simp
theorem all_cut {α : Type} {p : α → Bool} {l : List α} {k : Nat} (h : k < l.length) (hk : p l[k] = false) : l.all p = false := by
  rw [List.all_eq_false]
  exact ⟨l[k], List.getElem_mem h, by simp [hk]⟩
set_option maxHeartbeats 8000000 in
theorem name_is (s : ByteArray) (w : World) (hmx : Mx w) : Calls Tryd.prog 33 #[.string s] w fun e w' => e = .returned (.bool (nameB s)) ∧ Below w.heap.size w w' := by
  have hN : nameB s = (!(s.toList.isEmpty || decide (64 < s.size) || Lib.containsAny s.data.toList [0, 92]) && (partsB s).all okP) := rfl
  cases hE : s.toList.isEmpty with
  | true =>
    rw [hE, Bool.true_or, Bool.true_or, Bool.not_true, Bool.false_and] at hN
    rw [hN]
    clear hN
    go_enter Tryd.func33, Tryd.ntmps33
    go_wp2_with fail
    go_ret
    exact ⟨rfl, Below.refl _ _⟩
  | false =>
    by_cases h64 : 64 < s.size
    · have hd : decide ((s.size : Int) > 64) = true := by simp; omega
      rw [decide_eq_true h64, Bool.or_true, Bool.true_or, Bool.not_true, Bool.false_and] at hN
      rw [hN]
      clear hN
      go_enter Tryd.func33, Tryd.ntmps33
      go_wp2_with fail
      go_ret
      exact ⟨rfl, Below.refl _ _⟩
    · have hd : decide ((s.size : Int) > 64) = false := by simp; omega
      have hct := containsTwo s (by omega) w
      cases hC : Lib.containsAny s.data.toList [0, 92] with
      | true =>
        rw [hC, Bool.or_true, Bool.not_true, Bool.false_and] at hN
        rw [hN]
        rw [hC] at hct
        clear hN hC h64
        go_enter Tryd.func33, Tryd.ntmps33
        go_wp2_with fail
        refine hct.mono ?_
        rintro e w1 ⟨rfl, hb1⟩
        clear hct
        go_wp2_with fail
        go_ret
        exact ⟨rfl, hb1⟩
      | false =>
        rw [hC] at hct
        rw [hE, hC, decide_eq_false h64] at hN
        have hN2 : nameB s = (partsB s).all okP := by rw [hN]; simp
        rw [hN2]
        have hts := Tryd.strings_TrimSuffix s slash
        have hlen := parts_len s
        have htz := trim_size s
        obtain ⟨T, hT⟩ : ∃ T : ByteArray, (⟨(Lib.trimSuffix s.data.toList [47]).toArray⟩ : ByteArray) = T := ⟨_, rfl⟩
        have hts2 : ∀ W, Calls Tryd.prog 42 #[.string s, .string slash] W fun e w' => e = .returned (.string T) ∧ w' = W := fun W => by rw [← hT]; exact hts W (by omega)
        have hsp : ∀ W, Mx W → Calls Tryd.prog 41 #[.string T, .string slash] W fun e w' => e = .returned (.slice (some ⟨W.heap.size, 0, none⟩) (partsB s).length (partsB s).length) ∧ w' = W.alloc (.cells ((partsB s).map Value.string).toArray 9) := fun W ⟨_, m, hm⟩ => by
          rw [hlen]
          unfold partsB
          rw [hT]
          exact Tryd.strings_Split T slash m W (by rw [← hT]; omega) hm (by decide)
        have hmaxl : (partsB s).length ≤ 100 := by rw [hlen]; have := count_le s; omega
        generalize partsB s = P at *
        clear hN hN2 hC h64 hts hlen htz hT
        go_enter Tryd.func33, Tryd.ntmps33
        go_wp2_with fail
        refine hct.mono ?_
        rintro e w1 ⟨rfl, hb1⟩
        have hm1 := hmx.below hb1
        have ht1 := hts2 w1
        have hs1 := hsp w1 hm1
        clear hct hts2 hsp
        go_wp2_with fail
        refine ht1.mono ?_
        rintro e w2 ⟨rfl, hw2⟩
        rw [hw2]
        clear ht1
        go_wp2_with fail
        refine hs1.mono ?_
        rintro e w3 ⟨rfl, hw3⟩
        have hcell : ∀ (j : Nat) x, P[j]? = some x → w3.cell? ⟨w1.heap.size, j, none⟩ = some (.string x) := fun j x hx => by
          rw [hw3]; exact Lib.pieces_cell_at w1 P _ j x hx
        have hb3 : Below w.heap.size w w3 := by rw [hw3]; exact hb1.alloc hb1.size _
        have HB := Lib.hid hb3
        clear hs1 hb1 hb3 hm1 hw2 hw3
        go_wp2_with fail
        go_loopw [20] (fun i wr => ∃ k : Nat, k ≤ P.length ∧ i = .int .i64 k ∧ wr = w3 ∧ Hid ((P.take k).all okP = true)) (fun i _ => P.length - (RowKit.intOf i).toNat)
        case atStart => exact ⟨0, Nat.zero_le _, rfl, rfl, Lib.hid rfl⟩
        case round =>
          obtain ⟨k, hk, rfl, rfl, HA⟩ := hrel
          by_cases hlt : k < P.length
          · have hc1 := hcell k _ (List.getElem?_eq_getElem hlt)
            obtain ⟨x, hx⟩ : ∃ x, P[k] = x := ⟨_, rfl⟩
            rw [hx] at hc1
            have hcut : Hid (okP x = false → P.all okP = false) := Lib.hid fun h => all_cut hlt (by rw [hx]; exact h)
            have hgo : Hid (okP x = true → (P.take (k + 1)).all okP = true) := Lib.hid fun h => by rw [all_take hlt HA.out, hx]; exact h
            have HC := Lib.hid hcell
            clear hx hcell
            go_wp2_with fail
            · have h1 := ‹x.toList = []›
              go_ret
              exact ⟨by rw [hcut.out (okP_0 h1)]; rfl, HB.out⟩
            · have h1 := ‹x.toList = [46]›
              go_ret
              exact ⟨by rw [hcut.out (okP_1 h1)]; rfl, HB.out⟩
            · have h1 := ‹¬x.toList = []›
              have h2 := ‹¬x.toList = [46]›
              have h3 := ‹(x.toList.isEmpty = true ∨ (x.toList == [46]) = true) ∨ (x.toList == [46, 46]) = true›
              have h4 : x.toList = [46, 46] := by
                rcases h3 with (h | h) | h
                · exact absurd (List.isEmpty_iff.1 h) h1
                · exact absurd (by simpa using h) h2
                · simpa using h
              go_ret
              exact ⟨by rw [hcut.out (okP_2 h4)]; rfl, HB.out⟩
            · have h1 := ‹¬x.toList = []›
              have h2 := ‹¬x.toList = [46]›
              have h3 : ¬x.toList = [46, 46] := by
                have := (‹(x.toList.isEmpty = false ∧ (x.toList == [46]) = false) ∧ (x.toList == [46, 46]) = false›).2
                simpa using this
              go_roundw
              case rel => exact ⟨k + 1, by omega, by go_num, trivial, Lib.hid (hgo.out (okP_3 h1 h2 h3))⟩
              case measure => simp [RowKit.intOf]; omega
          · obtain rfl : P.length = k := by omega
            go_wp2_with fail
            go_ret
            exact ⟨by have := HA.out; rw [List.take_length] at this; rw [this]; rfl, HB.out⟩
end Go.Proofs.YtdcpibglbanchaaDoor
