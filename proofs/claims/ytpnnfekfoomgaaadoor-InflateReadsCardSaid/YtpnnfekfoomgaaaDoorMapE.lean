/- A key that is not in a map is put into it by two operations: an entry is made, then its value is stored; whatever happens between them to other blocks. No condition; no program is named. -/
import Derived.WideKeyEntry
import Derived.Maps.OwnSet
set_option linter.unusedVariables false
set_option maxRecDepth 100000
namespace Go.Proofs.YtpnnfekfoomgaaaDoor
open Go.RowKit Go.Maps Go.ChangeMaps
open Go.WideElems (Fit findIdx_born findIdx_arr modify_last)

section
variable {H : Type} {P : Program} {t k e : TypeId} {R : Value → Option (DataW H × List MemPlace)} {b : Nat} {es : Array MapEntry} {clock : Nat} {z key : Value} {kl : Lit}
theorem born_last (F : Fit P k R es clock) (v : Value) : (es.push ⟨key, v, clock⟩).findIdx? (fun x => ((x.born : Nat) : Int) == ((clock : Nat) : Int)) = some es.size := by
  obtain ⟨s1, s2, _⟩ := F.stamped
  rw [findIdx_arr]
  refine findIdx_born (j := es.size) (e0 := ⟨key, v, clock⟩) ?_ (by simp)
  simp only [Array.toList_push, List.map_append, List.map_cons, List.map_nil]
  refine List.nodup_append.2 ⟨s2, by simp, fun a ha c hc e1 => ?_⟩
  simp only [List.mem_singleton] at hc
  obtain ⟨x, hx, rfl⟩ := List.mem_map.1 ha
  have := s1 x hx
  omega
theorem entry_new (K : WideMaps.KeyLaw P k) (ht : P.underlying t = some (.map k e)) (hz : ∀ u : World, (zeroValue e).run P u = .ok z u) (F : Fit P k R es clock) (hkey : keyOf P k key = some kl) (hne : ∀ x ∈ es.toList, x.key ≠ key) (W : World) (hb : W.heap[b]? = some (.map es clock)) :
    (Instr.mapEntry t (.map (some b)) key).run P W = .ok (.tuple #[z, goInt clock]) (setBlock W b (.map (es.push ⟨key, z, clock⟩) (clock + 1))) := by
  rcases K.find W hkey es.toList F.keys with ⟨h1, _⟩ | ⟨j, e0, _, h2, h3⟩
  · simp [Instr.mapEntry, run_underlying ht, MapKept.run_getObj_map hb, K.check W false hkey, h1, hz, MapKept.run_setObj_map _ hb, Result.andThen, setBlock]
  · exact absurd h3 (hne e0 (List.mem_of_getElem? h2))
theorem update_new (K : WideMaps.KeyLaw P k) (ht : P.underlying t = some (.map k e)) (F : Fit P k R es clock) (hkey : keyOf P k key = some kl) (hne : ∀ x ∈ es.toList, x.key ≠ key) (val : Value) (W : World) (hb : W.heap[b]? = some (.map es clock)) :
    (Instr.mapUpdate t (.map (some b)) key val).run P W = .ok () (setBlock W b (.map (es.push ⟨key, val, clock⟩) (clock + 1))) := by
  rcases K.find W hkey es.toList F.keys with ⟨h1, _⟩ | ⟨j, e0, _, h2, h3⟩
  · simp [Instr.mapUpdate, run_underlying ht, MapKept.run_getObj_map hb, K.check W false hkey, h1, MapKept.run_setObj_map _ hb, Result.andThen, setBlock]
  · exact absurd h3 (hne e0 (List.mem_of_getElem? h2))
theorem entry_value (F : Fit P k R es clock) (val : Value) (W : World) (hb : W.heap[b]? = some (.map (es.push ⟨key, z, clock⟩) (clock + 1))) :
    (Instr.entryStore t (.map (some b)) (goInt clock) val).run P W = .ok () (setBlock W b (.map (es.push ⟨key, val, clock⟩) (clock + 1))) := by
  have hmod : (es.push ⟨key, z, clock⟩).modify es.size (fun x => { x with val := val }) = es.push ⟨key, val, clock⟩ := by
    apply Array.ext'
    rw [Array.toList_modify, Array.toList_push, Array.toList_push, ← Array.length_toList, modify_last]
  simp [Instr.entryStore, MapKept.run_getObj_map hb, asInt, asIntOf, goInt, born_last F z, hmod, MapKept.run_setObj_map _ hb, Result.andThen, setBlock]
/-- what the map reads as behind both -/
theorem owns_new {w : World} {n : Nat} {D : DataW H} (K : WideMaps.KeyLaw P k) (ht : P.underlying t = some (.map k e)) (hz : ∀ u : World, (zeroValue e).run P u = .ok z u) (h : w.ownsMap P k R b n D) (hn : n < maxLen) (hkey : keyOf P k key = some kl) (hnew : Maps.has D kl = false) {val : Value} {d : DataW H} {ps : List MemPlace} (hv : R val = some (d, ps)) :
    ∃ es clock, w.heap[b]? = some (.map es clock) ∧ (∀ W : World, W.heap[b]? = some (.map es clock) → (Instr.mapEntry t (.map (some b)) key).run P W = .ok (.tuple #[z, goInt clock]) (setBlock W b (.map (es.push ⟨key, z, clock⟩) (clock + 1)))) ∧
      (∀ W : World, W.heap[b]? = some (.map (es.push ⟨key, z, clock⟩) (clock + 1)) → (Instr.entryStore t (.map (some b)) (goInt clock) val).run P W = .ok () (setBlock W b (.map (es.push ⟨key, val, clock⟩) (clock + 1)))) ∧
      ∀ W : World, W.heap[b]? = some (.map (es.push ⟨key, val, clock⟩) (clock + 1)) → W.ownsMap P k R b (n + 1) (D.put kl d) := by
  have hup := h.update (Keyed.of_law K) ht hn hkey hv
  obtain ⟨es, clock, hb, F, hs, hD⟩ := h
  have hne : ∀ x ∈ es.toList, x.key ≠ key := by
    rcases Maps.fit_look true (Keyed.of_law K) ht (hz w) hb F hkey with ⟨_, h2, _⟩ | ⟨e0, y, _, _, _, _, hat, _⟩
    · exact h2
    · exfalso
      have := Maps.has_true_of_atKey hat
      rw [← hD, hnew] at this
      cases this
  refine ⟨es, clock, hb, entry_new K ht hz F hkey hne, entry_value F val, fun W hW => ?_⟩
  obtain ⟨w', hr, ho, _⟩ := hup
  rw [update_new K ht F hkey hne val w hb] at hr
  injection hr with _ hr
  subst hr
  obtain ⟨es2, cl2, h1, h2⟩ := ho
  refine ⟨es2, cl2, ?_, h2⟩
  rw [hW, ← h1]
  unfold setBlock
  simp [(Array.getElem?_eq_some_iff.1 hb).1]
end
end Go.Proofs.YtpnnfekfoomgaaaDoor
