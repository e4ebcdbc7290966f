/- Names, taken sign by sign: what the document's own Name asks is what archive's Name asks. No program is named. What texts the document calls names: contract of samovarref09.Name. No condition. -/
import Derived.Test.YtdcpibglbanchaaDoorNc
import Derived.Lib.IndexBytes
set_option linter.unusedVariables false
set_option maxRecDepth 100000
namespace Go.Proofs.YtdcpibglbanchaaDoor
open Go.RowKit Go.Lib

/-- the parts of a text, as lists -/
def pcs : List UInt8 → List (List UInt8)
  | [] => [[]]
  | c :: l => if c = 47 then [] :: pcs l else match pcs l with
    | p :: ps => (c :: p) :: ps
    | [] => [[c]]
theorem pcs_ne : ∀ l, pcs l ≠ []
  | [] => by simp [pcs]
  | c :: l => by
    unfold pcs
    split
    · simp
    · split <;> simp
theorem pcs_miss : ∀ l : List UInt8, indexByte l 47 = -1 → pcs l = [l]
  | [], _ => rfl
  | b :: l, h => by
    unfold indexByte at h
    by_cases hb : (b == 47) = true
    · rw [if_pos hb] at h; exact absurd h (by decide)
    · rw [if_neg hb] at h
      have hm : indexByte l 47 = -1 := by
        have := indexByte_ge l 47
        by_cases e : (indexByte l 47 == -1) = true
        · simpa using e
        · rw [if_neg e] at h; omega
      unfold pcs
      rw [if_neg (by simpa using hb), pcs_miss l hm]
theorem pcs_hit : ∀ (l : List UInt8) (i : Nat), indexByte l 47 = i → pcs l = l.take i :: pcs (l.drop (i + 1))
  | [], i, h => by unfold indexByte at h; omega
  | b :: l, i, h => by
    unfold indexByte at h
    by_cases hb : (b == 47) = true
    · rw [if_pos hb] at h
      obtain rfl : i = 0 := by omega
      rw [pcs, if_pos (by simpa using hb)]
      rfl
    · rw [if_neg hb] at h
      by_cases e : (indexByte l 47 == -1) = true
      · rw [if_pos e] at h; omega
      · rw [if_neg e] at h
        have := indexByte_ge l 47
        have hn1 : indexByte l 47 ≠ -1 := by simpa using e
        obtain ⟨j, rfl⟩ : ∃ j, i = j + 1 := ⟨i - 1, by omega⟩
        have hj : indexByte l 47 = j := by omega
        rw [pcs, if_neg (by simpa using hb), pcs_hit l j hj]
        rfl
theorem split_pcs : ∀ (n : Nat) (t : ByteArray), t.size ≤ n → (splitB slash 0 (countB t slash) t).map (·.toList) = pcs t.toList := by
  intro n
  induction n with
  | zero =>
    intro t ht
    have h0 : t.data.toList = [] := by have := Lib.size_eq t; exact List.eq_nil_of_length_eq_zero (by omega)
    have hm : indexB t slash = -1 := by
      show index t.data.toList [47] = -1
      rw [h0]; rfl
    rw [splitB_miss _ _ _ _ hm, Lib.toList_data, h0]
    simp [Lib.toList_data, h0, pcs]
  | succ n ih =>
    intro t ht
    have hix : indexB t slash = indexByte t.data.toList 47 := index_one _ _
    rcases indexB_cases t slash with hm | ⟨i, hi, hroom⟩
    · rw [splitB_miss _ _ _ _ hm]
      rw [hix] at hm
      rw [Lib.toList_data, pcs_miss _ hm]
      simp [Lib.toList_data]
    · have hroom' : i + 1 ≤ t.size := hroom
      rw [countB_hit t slash i (by decide) hi, Nat.add_comm, splitB_hit _ _ _ _ i hi]
      rw [hix] at hi
      rw [List.map_cons, ih _ (by
        have : slash.size = 1 := rfl
        rw [ByteArray.size_extract]; omega)]
      rw [Lib.extract_toList, Lib.extract_toList, Lib.toList_data, pcs_hit _ i hi]
      congr 1
      show pcs ((t.data.toList.drop (i + 1)).take (t.size - (i + 1))) = _
      rw [List.take_of_length_le (by rw [List.length_drop, Lib.size_eq]; omega)]
/-- may a part stand in a name? -/
def okL (x : List UInt8) : Bool := !(decide (x = []) || decide (x = [46]) || decide (x = [46, 46]))
theorem okP_list (P : List ByteArray) : P.all okP = (P.map (·.toList)).all okL := by
  rw [List.all_map]; rfl
/-- all parts but the last may stand; the last may be empty too -/
def allX : List (List UInt8) → Bool
  | [] => true
  | [p] => !(decide (p = [46]) || decide (p = [46, 46]))
  | p :: q :: ps => okL p && allX (q :: ps)
theorem allX_snoc : ∀ Q : List (List UInt8), allX (Q ++ [[]]) = Q.all okL
  | [] => rfl
  | [p] => by show (okL p && _) = _; simp [allX]
  | p :: q :: ps => by
    show (okL p && allX (q :: ps ++ [[]])) = _
    rw [allX_snoc (q :: ps)]; rfl
theorem allX_last : ∀ (P : List (List UInt8)) (h : P ≠ []), P.getLast h ≠ [] → allX P = P.all okL
  | [], h, _ => absurd rfl h
  | [p], _, hl => by
    have hp : p ≠ [] := hl
    simp [allX, okL, hp]
  | p :: q :: ps, h, hl => by
    show (okL p && allX (q :: ps)) = _
    rw [allX_last (q :: ps) (by simp) (by simpa using hl)]; rfl
theorem trim_cons (c : UInt8) {m : List UInt8} (hm : m ≠ []) : Lib.trimSuffix (c :: m) [47] = c :: Lib.trimSuffix m [47] := by
  obtain ⟨a, t, rfl⟩ : ∃ a t, m = t ++ [a] := ⟨m.getLast hm, m.dropLast, (List.dropLast_concat_getLast hm).symm⟩
  have key : ∀ (z : List UInt8), Lib.trimSuffix (z ++ [a]) [47] = if a = 47 then z else z ++ [a] := fun z => by
    unfold Lib.trimSuffix Lib.hasSuffix
    by_cases ha : a = 47
    · subst ha
      rw [if_pos (by rw [List.isSuffixOf_iff_suffix]; exact List.suffix_append _ _), if_pos rfl]
      simp
    · rw [if_neg (by
        rw [List.isSuffixOf_iff_suffix]
        rintro ⟨y, hy⟩
        have := List.append_inj_right' hy rfl
        injection this with this
        exact ha this.symm), if_neg ha]
  rw [← List.cons_append, key, key]
  split <;> rfl
theorem pcs_cons {c : UInt8} (hc : c ≠ 47) {l : List UInt8} {p : List UInt8} {ps : List (List UInt8)} (h : pcs l = p :: ps) : pcs (c :: l) = (c :: p) :: ps := by
  rw [pcs, if_neg hc, h]
/-- either nothing is taken away, and the last part isn't empty, or an empty part -/
theorem pcs_two : ∀ l : List UInt8, l ≠ [] → (pcs l = pcs (Lib.trimSuffix l [47]) ∧ (pcs l).getLast (pcs_ne l) ≠ []) ∨ pcs l = pcs (Lib.trimSuffix l [47]) ++ [[]]
  | [], h => absurd rfl h
  | [c], _ => by
    by_cases hc : c = 47
    · subst hc; exact .inr rfl
    · have ht : Lib.trimSuffix [c] [47] = [c] := by
        unfold Lib.trimSuffix Lib.hasSuffix
        rw [if_neg (by
          rw [List.isSuffixOf_iff_suffix]
          rintro ⟨y, hy⟩
          have := List.append_inj_right' (s₁ := y) (t₁ := [47]) (s₂ := []) (t₂ := [c]) hy rfl
          injection this with this
          exact hc this.symm)]
      have hp : pcs [c] = [[c]] := pcs_cons hc (l := []) rfl
      exact .inl ⟨by rw [ht], by simp [hp]⟩
  | c :: d :: m, _ => by
    rw [trim_cons c (by simp)]
    have ih := pcs_two (d :: m) (by simp)
    generalize hm : Lib.trimSuffix (d :: m) [47] = t at *
    generalize d :: m = l at *
    by_cases hc : c = 47
    · subst hc
      have e : ∀ z, pcs (47 :: z) = [] :: pcs z := fun z => by rw [pcs, if_pos rfl]
      rcases ih with ⟨h1, h2⟩ | h1
      · exact .inl ⟨by rw [e, e, h1], by
          have := List.getLast_cons (a := ([] : List UInt8)) (pcs_ne l)
          simp only [e, this]; exact h2⟩
      · exact .inr (by rw [e, e, h1]; rfl)
    · obtain ⟨p, ps, hp⟩ : ∃ p ps, pcs l = p :: ps := by
        cases h : pcs l with
        | nil => exact absurd h (pcs_ne l)
        | cons p ps => exact ⟨p, ps, rfl⟩
      obtain ⟨p', ps', hp'⟩ : ∃ p ps, pcs t = p :: ps := by
        cases h : pcs t with
        | nil => exact absurd h (pcs_ne t)
        | cons p ps => exact ⟨p, ps, rfl⟩
      have e1 := pcs_cons hc hp
      have e2 := pcs_cons hc hp'
      rcases ih with ⟨h1, h2⟩ | h1
      · rw [hp, hp'] at h1
        injection h1 with h3 h4
        subst h3 h4
        refine .inl ⟨by rw [e1, e2], ?_⟩
        simp only [hp] at h2
        simp only [e1]
        cases ps with
        | nil => simp
        | cons q qs => simpa using h2
      · rw [hp, hp', List.cons_append] at h1
        injection h1 with h3 h4
        subst h3
        exact .inr (by rw [e1, e2, h4]; rfl)
/-- the last sign taken away, if it ends a part -/
theorem pcs_trim (l : List UInt8) (h : l ≠ []) : allX (pcs l) = (pcs (Lib.trimSuffix l [47])).all okL := by
  rcases pcs_two l h with ⟨h1, h2⟩ | h1
  · rw [allX_last _ (pcs_ne l) h2, ← h1]
  · rw [h1, allX_snoc]
end Go.Proofs.YtdcpibglbanchaaDoor

set_option linter.unusedVariables false
set_option maxRecDepth 100000
namespace Go.Proofs.YtdcpibglbanchaaDoor
open Go.RowKit Go.Lib

/-- the document's way, sign by sign -/
def rGo : List UInt8 → List UInt8 → Bool
  | [], part => !(decide (part = [46]) || decide (part = [46, 46]))
  | c :: rest, part => if c = 47 then okL part && rGo rest [] else !(c == 0 || c == 92) && rGo rest (part ++ [c])
def pre (part : List UInt8) : List (List UInt8) → List (List UInt8)
  | [] => []
  | p :: ps => (part ++ p) :: ps
theorem pre_nil (P : List (List UInt8)) : pre [] P = P := by cases P <;> rfl
theorem rGo_is : ∀ (l part : List UInt8), rGo l part = ((l.all fun c => !(c == 0 || c == 92)) && allX (pre part (pcs l)))
  | [], part => by
    show _ = (true && allX [part ++ []])
    rw [List.append_nil]; rfl
  | c :: l, part => by
    rw [rGo]
    by_cases hc : c = 47
    · subst hc
      rw [if_pos rfl, rGo_is l []]
      have e : pcs (47 :: l) = [] :: pcs l := by rw [pcs, if_pos rfl]
      rw [e, pre_nil]
      obtain ⟨q, qs, hq⟩ : ∃ q qs, pcs l = q :: qs := by
        cases h : pcs l with
        | nil => exact absurd h (pcs_ne l)
        | cons p ps => exact ⟨p, ps, rfl⟩
      rw [hq]
      show _ = (((47 :: l).all fun c => !(c == 0 || c == 92)) && (okL (part ++ []) && allX (q :: qs)))
      rw [List.append_nil, List.all_cons]
      have e0 : (!((47 : UInt8) == 0 || (47 : UInt8) == 92)) = true := by decide
      rw [e0, Bool.true_and]
      cases okL part <;> cases (l.all fun c => !(c == 0 || c == 92)) <;> simp
    · rw [if_neg hc, rGo_is l (part ++ [c]), List.all_cons]
      obtain ⟨q, qs, hq⟩ : ∃ q qs, pcs l = q :: qs := by
        cases h : pcs l with
        | nil => exact absurd h (pcs_ne l)
        | cons p ps => exact ⟨p, ps, rfl⟩
      rw [pcs_cons hc hq, hq]
      show _ = (_ && allX ((part ++ (c :: q)) :: qs))
      show (_ && (_ && allX ((part ++ [c] ++ q) :: qs))) = _
      rw [show part ++ [c] ++ q = part ++ (c :: q) by simp, Bool.and_assoc]
theorem contains_two : ∀ l : List UInt8, Lib.containsAny l [0, 92] = !(l.all fun c => !(c == 0 || c == 92))
  | [] => rfl
  | b :: l => by
    have ih := contains_two l
    unfold Lib.containsAny at ih ⊢
    have hge := Lib.indexAny_ge [0, 92] l
    have hcb : ([0, 92] : List UInt8).contains b = (b == 0 || b == 92) := by
      simp only [List.contains, List.elem]
      cases (b == 0) <;> cases (b == 92) <;> rfl
    rw [Lib.indexAny, hcb, List.all_cons]
    cases hb : (b == 0 || b == 92) with
    | true => simp
    | false =>
      rw [if_neg (by simp)]
      simp only [Bool.not_false, Bool.true_and]
      rw [← ih]
      by_cases e : (Lib.indexAny l [0, 92] == -1) = true
      · rw [if_pos e]
        have : Lib.indexAny l [0, 92] = -1 := by simpa using e
        rw [this]
      · rw [if_neg e]
        have : Lib.indexAny l [0, 92] ≠ -1 := by simpa using e
        rw [decide_eq_true (by omega), decide_eq_true (by omega)]
theorem nameB_rGo (s : ByteArray) (h1 : s.toList ≠ []) (h64 : s.size ≤ 64) : nameB s = rGo s.toList [] := by
  have hsp := split_pcs _ ⟨(Lib.trimSuffix s.data.toList [47]).toArray⟩ (Nat.le_refl _)
  have ht : (⟨(Lib.trimSuffix s.data.toList [47]).toArray⟩ : ByteArray).toList = Lib.trimSuffix s.toList [47] := by rw [Lib.toList_data, Lib.toList_data]
  have hE : s.toList.isEmpty = false := by
    cases h : s.toList with
    | nil => exact absurd h h1
    | cons _ _ => rfl
  unfold nameB
  rw [hE, decide_eq_false (by omega), contains_two, okP_list]
  unfold partsB
  rw [hsp, ht, ← pcs_trim _ h1, rGo_is, pre_nil, Lib.toList_data]
  simp
theorem okL_0 {x : List UInt8} (h : x = []) : okL x = false := by subst h; rfl
theorem okL_1 {x : List UInt8} (h : x = [46]) : okL x = false := by subst h; rfl
theorem okL_2 {x : List UInt8} (h : x = [46, 46]) : okL x = false := by subst h; rfl
theorem okL_3 {x : List UInt8} (h0 : ¬x = []) (h1 : ¬x = [46]) (h2 : ¬x = [46, 46]) : okL x = true := by unfold okL; rw [decide_eq_false h0, decide_eq_false h1, decide_eq_false h2]; rfl
end Go.Proofs.YtdcpibglbanchaaDoor
