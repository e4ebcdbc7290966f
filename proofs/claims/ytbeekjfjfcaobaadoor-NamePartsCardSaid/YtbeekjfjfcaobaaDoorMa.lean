/- Names of classes and of members, descriptors, units: taken sign by sign, as plain mathematics. No program is named. -/
import Derived.Test.YtbeekjfjfcaobaaDoorPc
import Derived.Lib.IndexLaws
set_option linter.unusedVariables false
set_option maxRecDepth 100000
namespace Go.Proofs.YtbeekjfjfcaobaaDoor
open Go.RowKit Go.Lib

/-- the signs that no name has, beside blanks and what is ahead of them -/
def neverL : List UInt8 := [46, 59, 91, 92, 40, 41, 60, 62, 127]
def plainU (c : UInt8) : Bool := decide (32 < c.toNat) && decide (indexByte neverL c = -1)
/-- is it a class's name? -/
def classB (s : List UInt8) : Bool := decide (s.length ≤ 58) && s.all plainU && (pcs s).all (fun p => decide (p ≠ []))
/-- is it a member's name? -/
def memberB (s : List UInt8) (m : Bool) : Bool := (m && (decide (s = [60, 105, 110, 105, 116, 62]) || decide (s = [60, 99, 108, 105, 110, 105, 116, 62]))) || (decide (s ≠ []) && decide (s.length ≤ 64) && s.all plainU && decide (indexByte s 47 = -1))
/-- how many brackets a text begins with -/
def brN : List UInt8 → Nat
  | [] => 0
  | c :: l => if c = 91 then brN l + 1 else 0
/-- is it a sign that is a descriptor? -/
def oneU (c : UInt8) : Bool := c == 66 || c == 67 || c == 83 || c == 90 || c == 73 || c == 74
/-- a class between its sign and the one that ends it -/
def clsN (l : List UInt8) (n : Nat) : Nat :=
  let i := indexByte (l.drop (n + 1)) 59
  if 0 ≤ i ∧ classB ((l.drop (n + 1)).take i.toNat) = true then n + 1 + i.toNat + 1 else 0
/-- how many bytes the descriptor has with which a text begins; 0: none -/
def descN (l : List UInt8) : Nat := if 8 < brN l then 0 else match l[brN l]? with
  | none => 0
  | some c => if oneU c then brN l + 1 else if c = 76 then clsN l (brN l) else 0
theorem brN_le : ∀ l : List UInt8, brN l ≤ l.length
  | [] => Nat.le_refl _
  | c :: l => by
    have := brN_le l
    unfold brN; split <;> simp <;> omega
theorem brN_lt : ∀ (l : List UInt8) (k : Nat), k < brN l → l[k]? = some 91
  | [], k, h => by simp [brN] at h
  | c :: l, k, h => by
    unfold brN at h
    split at h
    · rename_i hc
      cases k with
      | zero => simp [hc]
      | succ k => simpa using brN_lt l k (by omega)
    · omega
theorem brN_at : ∀ (l : List UInt8), l[brN l]? ≠ some 91
  | [] => by simp
  | c :: l => by
    unfold brN
    split
    · rename_i hc
      simpa using brN_at l
    · rename_i hc
      simpa using hc
theorem indexByte_bd : ∀ (l : List UInt8) (c : UInt8), indexByte l c < (l.length : Int)
  | [], c => by simp [indexByte]
  | b :: l, c => by
    have := indexByte_bd l c
    have := indexByte_ge l c
    unfold indexByte
    rw [List.length_cons]
    split
    · omega
    · split <;> omega
theorem clsN_le (l : List UInt8) (n : Nat) : clsN l n ≤ l.length := by
  unfold clsN
  simp only
  split
  · rename_i h
    have := indexByte_bd (l.drop (n + 1)) 59
    rw [List.length_drop] at this
    omega
  · exact Nat.zero_le _
theorem descN_le (l : List UInt8) : descN l ≤ l.length := by
  unfold descN
  split
  · exact Nat.zero_le _
  · split
    · exact Nat.zero_le _
    · rename_i c hc
      have := (List.getElem?_eq_some_iff.1 hc).1
      split
      · omega
      · split
        · exact clsN_le _ _
        · exact Nat.zero_le _
/-- the document's way through a class's name -/
def rC : List UInt8 → Nat → Bool
  | [], n => decide (0 < n)
  | c :: l, n => if c = 47 then decide (n ≠ 0) && rC l 0 else plainU c && rC l (n + 1)
def hdB (n : Nat) : List (List UInt8) → Bool
  | [] => false
  | p :: ps => (decide (0 < n) || decide (p ≠ [])) && ps.all (fun p => decide (p ≠ []))
theorem plain_47 : plainU 47 = true := by decide
theorem rC_is : ∀ (l : List UInt8) (n : Nat), rC l n = (l.all plainU && hdB n (pcs l))
  | [], n => by
    unfold rC pcs hdB
    by_cases h : 0 < n <;> simp [h]
  | c :: l, n => by
    unfold rC
    obtain ⟨q, qs, hq⟩ : ∃ q qs, pcs l = q :: qs := by
      cases h : pcs l with
      | nil => exact absurd h (pcs_ne l)
      | cons p ps => exact ⟨p, ps, rfl⟩
    by_cases hc : c = 47
    · subst hc
      rw [if_pos rfl, rC_is l 0, List.all_cons, plain_47, Bool.true_and]
      have e : pcs (47 :: l) = [] :: pcs l := by rw [pcs, if_pos rfl]
      rw [e, hq]
      unfold hdB
      cases l.all plainU <;> by_cases h : 0 < n <;> simp [h] <;> omega
    · rw [if_neg hc, rC_is l (n + 1), List.all_cons, pcs_cons hc hq, hq]
      unfold hdB
      cases plainU c <;> cases l.all plainU <;> simp
theorem rC_class {l : List UInt8} (h : l.length ≤ 58) : rC l 0 = classB l := by
  rw [rC_is]
  unfold classB
  rw [decide_eq_true h, Bool.true_and]
  obtain ⟨q, qs, hq⟩ : ∃ q qs, pcs l = q :: qs := by
    cases h : pcs l with
    | nil => exact absurd h (pcs_ne l)
    | cons p ps => exact ⟨p, ps, rfl⟩
  rw [hq]; unfold hdB
  simp
theorem class_nil : classB [] = false := by decide
theorem class_long {l : List UInt8} (h : 58 < l.length) : classB l = false := by
  unfold classB; rw [decide_eq_false (by omega)]; rfl
end Go.Proofs.YtbeekjfjfcaobaaDoor
