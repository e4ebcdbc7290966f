/- The document's own archive reader, third part: contract of samovarref09.local. Condition: the bytes are bytes. The document's own archive reader, fourth part: contract of samovarref09.Directory. Condition: the bytes are bytes. -/
import Derived.Test.YtdcpibglbanchaaDoorEb
set_option linter.unusedVariables false
set_option maxRecDepth 100000
namespace Go.Proofs.YtdcpibglbanchaaDoor
open Go.RowKit Go.Maps Go.ChangeMaps

theorem cut_iff {l : List Int} {x y : Nat} (hx : x + 24 ≤ l.length) (hy : y + 24 ≤ l.length) : cutOf l x (x + 24) = cutOf l y (y + 24) ↔ ∀ i, i < 24 → l.getD (x + i) 0 = l.getD (y + i) 0 := by
  constructor
  · intro h i hi
    have := congrArg (fun z => z.getD i 0) h
    simp only [cutOf, List.getD_eq_getElem?_getD] at this
    rw [List.getElem?_take_of_lt (by omega), List.getElem?_take_of_lt (by omega), List.getElem?_drop, List.getElem?_drop] at this
    rw [List.getD_eq_getElem?_getD, List.getD_eq_getElem?_getD]; exact this
  · intro h
    unfold cutOf
    apply List.ext_getElem?
    intro i
    by_cases hi : i < 24
    · rw [List.getElem?_take_of_lt (by omega), List.getElem?_take_of_lt (by omega), List.getElem?_drop, List.getElem?_drop]
      have := h i hi
      rw [List.getD_eq_getElem?_getD, List.getD_eq_getElem?_getD, List.getElem?_eq_getElem (by omega), List.getElem?_eq_getElem (by omega)] at this
      rw [List.getElem?_eq_getElem (by omega), List.getElem?_eq_getElem (by omega)]
      exact congrArg some this
    · rw [List.getElem?_eq_none (by rw [List.length_take]; omega), List.getElem?_eq_none (by rw [List.length_take]; omega)]
/-- what the document's local answers -/
def locI (l : List Int) (F p : Nat) : Int := match locS l F p with | none => -1 | some a => (a : Nat)
theorem locI_none {l : List Int} {F p : Nat} (h : locS l F p = none) : locI l F p = -1 := by unfold locI; rw [h]
theorem locI_some {l : List Int} {F p a : Nat} (h : locS l F p = some a) : locI l F p = a := by unfold locI; rw [h]
end Go.Proofs.YtdcpibglbanchaaDoor

set_option linter.unusedVariables false
set_option maxRecDepth 100000
namespace Go.Proofs.YtdcpibglbanchaaDoor
open Go.RowKit Go.Maps Go.ChangeMaps

theorem ia_rec (b n c s : Nat) (W : World) (h : s < n) : (Instr.indexAt 25 (.slice (some ⟨b, 0, none⟩) n c) (.int .i64 s)).run Tryd.prog W = .ok (.pointer (some ⟨b, s * 7, none⟩)) W := by
  have hs : (sizeOf (Tryd.prog.elem 25)).run Tryd.prog W = .ok 7 W := by kernel_rfl
  rw [run_indexAt_slice W _ _ _ _ _ _ (by kernel_rfl), if_pos (by omega), hs]
  have e : (⟨b, 0, none⟩ : Addr).add ((s : Int).toNat * 7) = ⟨b, s * 7, none⟩ := by
    rw [add_off']; congr 1
  simp only [Result.andThen_ok, e]
theorem ia_int (b n c s : Nat) (W : World) (h : s < n) : (Instr.indexAt 95 (.slice (some ⟨b, 0, none⟩) n c) (.int .i64 s)).run Tryd.prog W = .ok (.pointer (some ⟨b, s, none⟩)) W := by
  have hs : (sizeOf (Tryd.prog.elem 95)).run Tryd.prog W = .ok 1 W := by kernel_rfl
  rw [run_indexAt_slice W _ _ _ _ _ _ (by kernel_rfl), if_pos (by omega), hs]
  have e : (⟨b, 0, none⟩ : Addr).add ((s : Int).toNat * 1) = ⟨b, s, none⟩ := by
    rw [add_off']; congr 1; omega
  simp only [Result.andThen_ok, e]
theorem rc_fa5 (G o : Nat) (W : World) : (Instr.fieldAt 30 (.pointer (some ⟨G, o, none⟩)) 5).run Tryd.prog W = .ok (.pointer (some ⟨G, o + 5, none⟩)) W := by kernel_rfl
theorem y_stI (g k : Nat) (x : Int) (old : Value) (W : World) (h : W.cell? ⟨g, k, none⟩ = some old) (hf : W.frozen? ⟨g, k, none⟩ = false) : (Instr.storeAt 3 (.pointer (some ⟨g, k, none⟩)) (.int .i64 x)).run Tryd.prog W = .ok () (W.setCell ⟨g, k, none⟩ (.int .i64 x)) := by
  simp [Instr.storeAt, Instr.sureAddr, storeVar, Result.andThen, h, hf, go_sem]
section
variable {a : Act} {w : World} {o : Oper}
end
/-- where the region of a record's place has come to -/
structure DrC (wa : World) (G o : Nat) (u : Value) (L : Array Bool) (W : World) : Prop where
  cx : L[15]? = some true → L[12]? = some true
  c12 : L[12]? = some true → L[6]? = some true ∧ L[10]? = some true
  world : if L[15]? = some true then ∃ w2, Below wa.heap.size wa w2 ∧ W = w2.setCell ⟨G, o, none⟩ u else if L[12]? = some true then Below wa.heap.size wa W else W = wa
section
variable {wa W w2 : World} {G o : Nat} {u : Value} {L : Array Bool}
theorem DrC.skip (h : DrC wa G o u L W) (i : Nat) (h6 : i ≠ 12) (h7 : i ≠ 15) : DrC wa G o u (L.setIfInBounds i true) W :=
  ⟨fun q => by rw [set_ne h7] at q; rw [set_ne h6]; exact h.cx q, fun q => by rw [set_ne h6] at q; exact ⟨set_true (h.c12 q).1, set_true (h.c12 q).2⟩, by rw [set_ne h7, set_ne h6]; exact h.world⟩
theorem DrC.early (h : DrC wa G o u L W) (h12 : L[12]? ≠ some true) : W = wa := by
  have hw := h.world
  rw [if_neg (fun q => h12 (h.cx q)), if_neg h12] at hw; exact hw
theorem DrC.put12 (h : DrC wa G o u L W) (h12 : L[12]? = some false) (h6 : L[6]? = some true) (h10 : L[10]? = some true) (hb : Below wa.heap.size wa w2) : DrC wa G o u (L.setIfInBounds 12 true) w2 := by
  have hx : L[15]? ≠ some true := fun q => by have := h.cx q; rw [h12] at this; cases this
  refine ⟨fun q => absurd (by rw [set_ne (by decide)] at q; exact q) hx, fun _ => by rw [set_ne (by decide), set_ne (by decide)]; exact ⟨h6, h10⟩, ?_⟩
  rw [set_ne (by decide), if_neg hx, set_same h12, if_pos rfl]; exact hb
theorem DrC.put15 (h : DrC wa G o u L W) (h15 : L[15]? = some false) (h12 : L[12]? = some true) : Below wa.heap.size wa W ∧ DrC wa G o u (L.setIfInBounds 15 true) (W.setCell ⟨G, o, none⟩ u) := by
  have hw := h.world
  rw [if_neg (by rw [h15]; decide), if_pos h12] at hw
  refine ⟨hw, fun _ => by rw [set_ne (by decide)]; exact h12, fun q => by rw [set_ne (by decide)] at q ⊢; rw [set_ne (by decide)]; exact h.c12 q, ?_⟩
  rw [set_same h15, if_pos rfl]
  exact ⟨W, hw, rfl⟩
theorem DrC.last (h : DrC wa G o u L W) (hx : L[15]? = some true) : ∃ w2, Below wa.heap.size wa w2 ∧ W = w2.setCell ⟨G, o, none⟩ u := by
  have hw := h.world
  rw [if_pos hx] at hw; exact hw
end
/-- the records of which the first ones have their places -/
def recA (l : List Int) (es : List (Nat × Nat)) (ps : List Nat) : List Value := recR l es ++ recP l ps
theorem recC_set (l : List Int) (p a : Nat) : (recC l (p, 0)).set 5 (.int .i64 (a : Nat)) = recC l (p, a) := rfl
theorem recR_len (l : List Int) (es : List (Nat × Nat)) : (recR l es).length = es.length * 7 := flat_len (fun x hx => recC_len l x)
theorem recR_at {l : List Int} {es : List (Nat × Nat)} {k j : Nat} {e : Nat × Nat} (h : es[k]? = some e) (hj : j < 7) : (recR l es)[k * 7 + j]? = (recC l e)[j]? := by
  have hk : k < es.length := (List.getElem?_eq_some_iff.1 h).1
  have h1 : es = es.take k ++ e :: es.drop (k + 1) := by
    have : es.drop k = e :: es.drop (k + 1) := by rw [List.drop_eq_getElem?_toList_append, h]; rfl
    rw [← this, List.take_append_drop]
  have h2 : ((es.take k).flatMap (recC l)).length = k * 7 := by
    rw [flat_len (f := recC l) (k := 7) (fun x hx => recC_len l x), List.length_take]; congr 1; omega
  unfold recR
  conv => lhs; rw [h1]
  rw [List.flatMap_append, List.flatMap_cons, List.getElem?_append_right (by omega), h2, show k * 7 + j - k * 7 = j by omega, List.getElem?_append_left (by rw [recC_len]; exact hj)]
theorem endS_P (l : List Int) : (endP l < 0 ∧ endS l = .error 9) ∨ (∃ p : Nat, endP l = p ∧ p + 22 ≤ l.length ∧ endS l = if numL l ((p : Int) + 4) 2 ≠ 0 ∨ numL l ((p : Int) + 6) 2 ≠ 0 ∨ numL l ((p : Int) + 8) 2 ≠ numL l ((p : Int) + 10) 2 ∨ numL l ((p : Int) + 10) 2 > 64 ∨ numL l ((p : Int) + 16) 4 + numL l ((p : Int) + 12) 4 ≠ p then .error 10
    else .ok (numL l ((p : Int) + 16) 4, p, numL l ((p : Int) + 10) 2)) := by
  by_cases h : (epS l (l.length - 21)).2 = 1
  · refine .inr ⟨(epS l (l.length - 21)).1, endV_1 h, ?_, ?_⟩
    · have := (epS_at l (l.length - 21) (by omega)).2; omega
    · unfold endS; rw [if_neg (by omega)]
  · refine .inl ⟨by unfold endP; rw [endV_2 h]; decide, ?_⟩
    unfold endS; rw [if_pos (by omega)]
end Go.Proofs.YtdcpibglbanchaaDoor
