/- A list with others laid into it: the sums are alike just if nothing is other. No program is named. -/
import Derived.Test.YthfhafnffeijpaaDoorCr
set_option linter.unusedVariables false
set_option maxRecDepth 100000
namespace Go.Proofs.YthfhafnffeijpaaDoor
open Go.RowKit

/-- a list with others laid into it from a place on, one by one -/
def lay (l : List Int) (A : Nat) (x : List Int) : Nat → List Int
  | 0 => l
  | k + 1 => (lay l A x k).set (A + k) (x.getD k 0)
theorem lay_len (l : List Int) (A : Nat) (x : List Int) : ∀ k, (lay l A x k).length = l.length
  | 0 => rfl
  | k + 1 => by simp only [lay, List.length_set]; exact lay_len l A x k
theorem lay_eq (l : List Int) (A : Nat) (x : List Int) : ∀ k, (k = 0 ∨ A + k ≤ l.length) → k ≤ x.length → lay l A x k = l.take A ++ x.take k ++ l.drop (A + k)
  | 0, _, _ => by simp [lay]
  | k + 1, h, hx => by
    have ih := lay_eq l A x k (by omega) (by omega)
    have h1 : A + k < l.length := by omega
    simp only [lay]
    rw [ih, List.set_append_right _ _ (by simp; omega), List.drop_eq_getElem_cons h1]
    have e : A + k - (l.take A ++ x.take k).length = 0 := by simp; omega
    rw [e, List.set_cons_zero, take_succ' x k (by omega)]
    simp [Nat.add_assoc]
theorem lay_bytes (l : List Int) (A : Nat) (x : List Int) (hl : Bytes l) (hx : Bytes x) (k : Nat) (h : k = 0 ∨ A + k ≤ l.length) (hk : k ≤ x.length) : Bytes (lay l A x k) := by
  rw [lay_eq l A x k h hk]
  exact ((hl.take _).app (hx.take _)).app (hl.drop _)
theorem lay_at (l : List Int) (A : Nat) (x : List Int) (k : Nat) (h : A + k < l.length) (hk : k ≤ x.length) : (lay l A x k).getD (A + k) 0 = l.getD (A + k) 0 := by
  rw [lay_eq l A x k (by omega) hk]
  simp only [List.getD_eq_getElem?_getD]
  rw [List.getElem?_append_right (by simp; omega)]
  have e : A + k - (l.take A ++ x.take k).length = 0 := by simp; omega
  rw [e, List.getElem?_drop]; simp
/-- whether nothing is other up to there -/
def sm (l : List Int) (A : Nat) (x : List Int) (k : Nat) : Bool := decide (x.take k = (l.drop A).take k)
theorem sm_succ (l : List Int) (A : Nat) (x : List Int) (k : Nat) (h : A + k < l.length) (hk : k < x.length) : sm l A x (k + 1) = (sm l A x k && (x.getD k 0 == l.getD (A + k) 0)) := by
  have e : (l.drop A).getD k 0 = l.getD (A + k) 0 := by simp [List.getD_eq_getElem?_getD]
  unfold sm
  rw [take_succ' x k hk, take_succ' (l.drop A) k (by simp; omega), e, Bool.eq_iff_iff]
  simp only [decide_eq_true_eq, Bool.and_eq_true, beq_iff_eq]
  constructor
  · intro h1
    have h2 := List.append_inj h1 (by simp; omega)
    exact ⟨h2.1, by simpa using h2.2⟩
  · rintro ⟨h1, h2⟩; rw [h1, h2]
/-- the sums are alike just if nothing is other -/
theorem turned (l : List Int) (A : Nat) (x : List Int) (hl : Bytes l) (hx : Bytes x) (k : Nat) (h : k = 0 ∨ A + k ≤ l.length) (hk : k ≤ x.length) (h4 : k ≤ 4) : (sumOf 0 (lay l A x k) == sumOf 0 l) = sm l A x k := by
  have e1 := lay_eq l A x k h hk
  have e2 : l = l.take A ++ (l.drop A).take k ++ l.drop (A + k) := by
    rw [List.append_assoc, ← List.drop_drop, List.take_append_drop, List.take_append_drop]
  rw [Bool.eq_iff_iff]
  unfold sm
  rw [beq_iff_eq, decide_eq_true_eq, e1]
  constructor
  · intro hs
    unfold sumOf at hs
    have h1 := un_inj hs
    have h2 : crc (start 0) (l.take A ++ x.take k ++ l.drop (A + k)) = crc (start 0) l := by
      have := congrArg (fun r => ~~~ r) h1
      simpa using this
    have h3 : crc (start 0) (l.take A ++ x.take k ++ l.drop (A + k)) = crc (start 0) (l.take A ++ (l.drop A).take k ++ l.drop (A + k)) := by rw [← e2]; exact h2
    exact crc_turned _ _ _ _ (hx.take k) ((hl.drop A).take k) (by simp; omega) (by simp; omega) _ h3
  · intro hs
    rw [hs, ← e2]

theorem lay_same {l : List Int} {A : Nat} {x : List Int} {k : Nat} (h : k = 0 ∨ A + k ≤ l.length) (hk : k ≤ x.length) (hs : sm l A x k = true) : lay l A x k = l := by
  unfold sm at hs
  rw [decide_eq_true_eq] at hs
  rw [lay_eq l A x k h hk, hs, List.append_assoc, ← List.drop_drop, List.take_append_drop, List.take_append_drop]
theorem lay_sum {l : List Int} {A : Nat} {x : List Int} {k : Nat} (hl : Bytes l) (hx : Bytes x) (h : k = 0 ∨ A + k ≤ l.length) (hk : k ≤ x.length) (h4 : k ≤ 4) : sumOf 0 (lay l A x k) = sumOf 0 l ↔ lay l A x k = l := by
  have ht := turned l A x hl hx k h hk h4
  constructor
  · intro e
    rw [e] at ht
    exact lay_same h hk (by rw [← ht]; simp)
  · intro e; rw [e]
end Go.Proofs.YthfhafnffeijpaaDoor
