/- What a byte of one entry's packed bytes that is another one changes of the other entries, as plain mathematics. No condition; no program is named. -/
import Derived.Test.YtdcpibglbanchaaDoorFnd
set_option linter.unusedVariables false
set_option maxRecDepth 100000
namespace Go.Proofs.YtdcpibglbanchaaDoor
open Go.RowKit

section
variable {l : List Int} {F T N : Nat} {ps bs : List Nat}
/-- entries lie apart -/
theorem DirK.apart2 (h : DirK l F T N ps bs) {i k : Nat} {e d : Nat × Nat} (hne : i ≠ k) (hi : (ps.zip bs)[i]? = some e) (hk : (ps.zip bs)[k]? = some d) : e.2 + pkL l e.1 ≤ hdL l d.1 ∨ d.2 + pkL l d.1 ≤ hdL l e.1 := by
  have hno := fun q e he => (ovS_no (ps.zip bs) [] h.over q e he).2
  rcases Nat.lt_or_ge i k with h1 | h1
  · have := hno k d hk i e h1 hi
    unfold onOne at this
    rw [Bool.and_eq_false_iff] at this
    rcases this with h2 | h2
    · exact .inl (by simpa using h2)
    · exact .inr (by simpa using h2)
  · have := hno i e hi k d (by omega) hk
    unfold onOne at this
    rw [Bool.and_eq_false_iff] at this
    rcases this with h2 | h2
    · exact .inr (by simpa using h2)
    · exact .inl (by simpa using h2)
theorem agr_set (P : Nat) (X : Int) {lo hi : Nat} (h : hi ≤ P ∨ P < lo) : Agr l (l.set P X) lo hi :=
  ⟨by rw [List.length_set], fun i a b => by rw [List.getD_eq_getElem?_getD, List.getD_eq_getElem?_getD, List.getElem?_set_ne (by omega)]⟩
theorem DirK.turned (h : DirK l F T N ps bs) {k : Nat} {d : Nat × Nat} (hk : (ps.zip bs)[k]? = some d) {P : Nat} (hP : d.2 ≤ P ∧ P < d.2 + pkL l d.1) (X : Int) :
    (endP (l.set P X) < 0 ∧ dirS (l.set P X) = .error 9) ∨ (0 ≤ endP (l.set P X) ∧ dirS (l.set P X) = .ok (ps.zip bs) ∧ recR (l.set P X) (ps.zip bs) = recR l (ps.zip bs)) := by
  have hd := h.ent (List.mem_of_getElem? hk)
  refine h.agr (agr_set P X (.inr (by omega))) fun e he => ?_
  obtain ⟨i, hi⟩ := List.getElem?_of_mem he
  have hee := h.ent he
  by_cases hik : i = k
  · subst hik
    rw [hi] at hk
    injection hk with hk
    subst hk
    exact agr_set P X (.inl hP.1)
  · rcases h.apart2 hik hi hk with h1 | h1
    · exact agr_set P X (.inl (by omega))
    · exact agr_set P X (.inr (by omega))
theorem fnd_agr {l' : List Int} {nm : ByteArray} : ∀ es : List (Nat × Nat), (∀ e ∈ es, nmT l' e.1 = nmT l e.1 ∧ (nmT l e.1 = nm → entS l' e = entS l e)) → fndS l' nm es = fndS l nm es
  | [], _ => rfl
  | e :: es, h => by
    have h1 := h e (by simp)
    have ih := fnd_agr es (fun x hx => h x (by simp [hx]))
    unfold fndS
    rw [h1.1, ih]
    by_cases hn : nmT l e.1 = nm
    · rw [if_pos hn, if_pos hn, h1.2 hn]
    · rw [if_neg hn, if_neg hn]
theorem DirK.found (h : DirK l F T N ps bs) {k i : Nat} {d e : Nat × Nat} (hk : (ps.zip bs)[k]? = some d) (hi : (ps.zip bs)[i]? = some e) (hik : i ≠ k) {P : Nat} (hP : d.2 ≤ P ∧ P < d.2 + pkL l d.1) (X : Int) :
    fndS (l.set P X) (nmT l e.1) (ps.zip bs) = fndS l (nmT l e.1) (ps.zip bs) := by
  have hd := h.ent (List.mem_of_getElem? hk)
  have hdT : Agr l (l.set P X) F T := agr_set P X (.inr (by omega))
  refine fnd_agr _ fun x hx => ?_
  have hkx := h.cenk.at_ x.1 (List.of_mem_zip hx).1
  have hs := szL_ge l x.1
  refine ⟨(hdT.nmT x.1 hkx.1 hkx.2.1).symm, fun hn => ?_⟩
  obtain ⟨j, hj⟩ := List.getElem?_of_mem hx
  have hnu : nmU l x.1 = nmU l e.1 := by unfold nmU; rw [hn]
  have hji : j = i := by
    rcases Nat.lt_trichotomy j i with h1 | h1 | h1
    · exact absurd hnu (h.unlike h1 hi hj)
    · exact h1
    · exact absurd hnu.symm (h.unlike h1 hj hi)
  subst hji
  rw [hi] at hj
  injection hj with hj
  subst hj
  have he := h.ent hx
  have hz : Agr l (l.set P X) (hdL l e.1) (e.2 + pkL l e.1) := by
    rcases h.apart2 hik hi hk with h1 | h1
    · exact agr_set P X (.inl (by omega))
    · exact agr_set P X (.inr (by omega))
  have m10 := hdT.num2 e.1 10 hkx.1 (by omega)
  have m24 := hdT.num4 e.1 24 hkx.1 (by omega)
  have m16 := hdT.num4 e.1 16 hkx.1 (by omega)
  rw [show ((e.1 : Int) + (10 : Nat)) = (e.1 : Int) + 10 from rfl] at m10
  rw [show ((e.1 : Int) + (24 : Nat)) = (e.1 : Int) + 24 from rfl] at m24
  rw [show ((e.1 : Int) + (16 : Nat)) = (e.1 : Int) + 16 from rfl] at m16
  have e2 : pkL (l.set P X) e.1 = pkL l e.1 := by unfold pkL; rw [show ((e.1 : Int) + 20) = (e.1 : Int) + (20 : Nat) from rfl, hdT.num4 e.1 20 hkx.1 (by omega)]
  have hc := hz.cut (p := e.2) (q := e.2 + pkL l e.1) (by omega) (Nat.le_refl _)
  unfold entS
  rw [e2, ← m10, ← m24, ← m16, ← hc]
end
end Go.Proofs.YtdcpibglbanchaaDoor
