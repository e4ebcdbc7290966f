/- A text split at a sign, as lists; what must have a value. No condition. -/
import Derived.Test.YtbeekjfjfcaobaaDoorGa
import Derived.Shelf.Strings.PiecesUse
import Derived.Lib.SplitLaws
import Derived.Lib.IndexBytes
set_option linter.unusedVariables false
set_option maxRecDepth 100000
namespace Go.Proofs.YtbeekjfjfcaobaaDoor
open Go.RowKit Go.Lib

/-- the variable has a value -/
def Mx (w : World) : Prop := 0 < w.heap.size ∧ ∃ m : Int, w.cell? ⟨0, 0, none⟩ = some (.int .i64 m)
theorem Mx.below {w w' : World} (h : Mx w) (hb : Below w.heap.size w w') : Mx w' := by
  obtain ⟨h1, m, h2⟩ := h
  exact ⟨Nat.lt_of_lt_of_le h1 hb.size, m, (hb.cell (p := ⟨0, 0, none⟩) h1).trans h2⟩
def slash : ByteArray := ⟨#[47]⟩
/-- the parts of a text, as lists -/
def pcs : List UInt8 → List (List UInt8)
  | [] => [[]]
  | c :: l => if c = 47 then [] :: pcs l else match pcs l with
    | p :: ps => (c :: p) :: ps
    | [] => [[c]]
theorem pcs_ne : ∀ l, pcs l ≠ []
  | [] => by simp [pcs]
  | c :: l => by
    unfold pcs
    split
    · simp
    · split <;> simp
theorem pcs_miss : ∀ l : List UInt8, indexByte l 47 = -1 → pcs l = [l]
  | [], _ => rfl
  | b :: l, h => by
    unfold indexByte at h
    by_cases hb : (b == 47) = true
    · rw [if_pos hb] at h; exact absurd h (by decide)
    · rw [if_neg hb] at h
      have hm : indexByte l 47 = -1 := by
        have := indexByte_ge l 47
        by_cases e : (indexByte l 47 == -1) = true
        · simpa using e
        · rw [if_neg e] at h; omega
      unfold pcs
      rw [if_neg (by simpa using hb), pcs_miss l hm]
theorem pcs_hit : ∀ (l : List UInt8) (i : Nat), indexByte l 47 = i → pcs l = l.take i :: pcs (l.drop (i + 1))
  | [], i, h => by unfold indexByte at h; omega
  | b :: l, i, h => by
    unfold indexByte at h
    by_cases hb : (b == 47) = true
    · rw [if_pos hb] at h
      obtain rfl : i = 0 := by omega
      rw [pcs, if_pos (by simpa using hb)]
      rfl
    · rw [if_neg hb] at h
      by_cases e : (indexByte l 47 == -1) = true
      · rw [if_pos e] at h; omega
      · rw [if_neg e] at h
        have := indexByte_ge l 47
        have hn1 : indexByte l 47 ≠ -1 := by simpa using e
        obtain ⟨j, rfl⟩ : ∃ j, i = j + 1 := ⟨i - 1, by omega⟩
        have hj : indexByte l 47 = j := by omega
        rw [pcs, if_neg (by simpa using hb), pcs_hit l j hj]
        rfl
theorem split_pcs : ∀ (n : Nat) (t : ByteArray), t.size ≤ n → (splitB slash 0 (countB t slash) t).map (·.toList) = pcs t.toList := by
  intro n
  induction n with
  | zero =>
    intro t ht
    have h0 : t.data.toList = [] := by have := Lib.size_eq t; exact List.eq_nil_of_length_eq_zero (by omega)
    have hm : indexB t slash = -1 := by
      show index t.data.toList [47] = -1
      rw [h0]; rfl
    rw [splitB_miss _ _ _ _ hm, Lib.toList_data, h0]
    simp [Lib.toList_data, h0, pcs]
  | succ n ih =>
    intro t ht
    have hix : indexB t slash = indexByte t.data.toList 47 := index_one _ _
    rcases indexB_cases t slash with hm | ⟨i, hi, hroom⟩
    · rw [splitB_miss _ _ _ _ hm]
      rw [hix] at hm
      rw [Lib.toList_data, pcs_miss _ hm]
      simp [Lib.toList_data]
    · have hroom' : i + 1 ≤ t.size := hroom
      rw [countB_hit t slash i (by decide) hi, Nat.add_comm, splitB_hit _ _ _ _ i hi]
      rw [hix] at hi
      rw [List.map_cons, ih _ (by
        have : slash.size = 1 := rfl
        rw [ByteArray.size_extract]; omega)]
      rw [Lib.extract_toList, Lib.extract_toList, Lib.toList_data, pcs_hit _ i hi]
      congr 1
      show pcs ((t.data.toList.drop (i + 1)).take (t.size - (i + 1))) = _
      rw [List.take_of_length_le (by rw [List.length_drop, Lib.size_eq]; omega)]
theorem pcs_cons {c : UInt8} (hc : c ≠ 47) {l : List UInt8} {p : List UInt8} {ps : List (List UInt8)} (h : pcs l = p :: ps) : pcs (c :: l) = (c :: p) :: ps := by
  rw [pcs, if_neg hc, h]
end Go.Proofs.YtbeekjfjfcaobaaDoor
