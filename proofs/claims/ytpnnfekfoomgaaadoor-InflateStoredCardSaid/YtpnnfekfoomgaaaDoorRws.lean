/- A slice of slices of bytes, opened; a byte's complement. Condition: none. -/
import Derived.Test.YtpnnfekfoomgaaaDoorArgs
import Derived.ChangeSame
set_option linter.unusedVariables false
set_option maxRecDepth 100000
namespace Go.Proofs.YtpnnfekfoomgaaaDoor
open Go.ChangeShapes Go.WideShapes Go.ChangeAt Go.RowKit

/-- rows of bytes as they lie in memory -/
def RowsAt (w : World) (B : Nat) (a : Option Addr) (l : List (List Int)) : Prop :=
  0 < l.length → ∃ b off, a = some ⟨b, off, none⟩ ∧ b < B ∧ ∀ i, i < l.length → ∃ ai ci, w.cell? ⟨b, off + i, none⟩ = some (.slice ai (l.getD i []).length ci) ∧ Bs w B ai (l.getD i []) ∧ (ai = none → (l.getD i []).length = 0 ∧ ci = 0)
theorem RowsAt.below {w w' : World} {B : Nat} {a : Option Addr} {l : List (List Int)} (h : RowsAt w B a l) (hb : Below B w w') : RowsAt w' B a l := fun hn => by
  obtain ⟨b, off, e, hlt, hc⟩ := h hn
  exact ⟨b, off, e, hlt, fun i hi => by
    obtain ⟨ai, ci, h1, h2, h3⟩ := hc i hi
    exact ⟨ai, ci, (hb.cell (p := ⟨b, _, none⟩) hlt).trans h1, h2.below hb, h3⟩⟩
section
variable {H : Type} {enc : TypeId × Value → H} {K : Option Nat} {W : World} {t : TypeId} {v : Value} {d : DataW H} {p : List MemPlace}
theorem bytes_cell' {fuel : Nat} {u : Value} {x : DataW H × List MemPlace} (h : DataW.trod enc Tryd.prog W 0 (fun _ => true) true fuel 22 [u] = some x) :
    ∃ a n c l, u = .slice a n c ∧ l.length = n ∧ n ≤ c ∧ Bs W W.heap.size a l ∧ (a = none → l.length = 0 ∧ c = 0) := by
  rcases open_ints Tryd.underlying22 Tryd.underlying5 (by kernel_rfl) h with ⟨hcs, _⟩ | ⟨x, n, c, zs, hcs, _, hl, hm, hz, hd, hcell, hwz⟩
  · injection hcs with hcs; subst hcs
    exact ⟨none, 0, 0, [], rfl, rfl, Nat.le_refl _, Bs.nil_ _ _ _, fun _ => ⟨rfl, rfl⟩⟩
  · injection hcs with hcs; subst hcs
    have hz' : zs.length = c := by simpa using hz
    refine ⟨some x, n, c, zs.take n, rfl, by rw [List.length_take]; omega, hl, ⟨fun b hb => bd_u8 (hwz b (List.mem_of_mem_take hb)), fun hp => ?_⟩, fun h => by cases h⟩
    have hn : n ≤ zs.length := by omega
    have hlen : (zs.take n).length = n := by rw [List.length_take]; omega
    have h00 := hcell 0 (by omega)
    obtain ⟨b, off, rfl⟩ := cell_addr h00
    refine ⟨b, off, rfl, cell_lt (by rw [add_off] at h00; exact h00), fun i hi => ?_⟩
    rw [hlen] at hi
    have := hcell i (by omega)
    rw [add_off] at this
    rw [this]
    simp [List.getD_eq_getElem?_getD, hi]
theorem One.rows (h : One H enc K W t v d p) (hu : Tryd.prog.underlying t = some (.slice 22)) (hc : Tryd.prog.cellsOf 22 = 1) :
    ∃ a n c l, v = .slice a n c ∧ l.length = n ∧ RowsAt W W.heap.size a l := by
  obtain ⟨base, hv⟩ := h.size
  obtain ⟨a, n, c, rfl⟩ := okWide_slice hu hv
  obtain ⟨fuel, hf⟩ := h.read
  rcases Go.Deep.open_slice1 hu hc hf with ⟨hcs, _⟩ | ⟨x, n', c', m, fu, V, D, Pl, hcs, _, hl, hm, hmm, hd, hcell⟩
  · simp [Value.cells] at hcs
    obtain ⟨rfl, rfl, rfl⟩ := hcs
    exact ⟨none, 0, 0, [], rfl, rfl, fun hn => absurd hn (by simp)⟩
  · simp [Value.cells] at hcs
    obtain ⟨rfl, rfl, rfl⟩ := hcs
    have hmc : m = c := by simpa using hmm
    subst hmc
    by_cases hn0 : n = 0
    · subst hn0
      exact ⟨some x, 0, m, [], rfl, rfl, fun hn => absurd hn (by simp)⟩
    obtain ⟨b, off, rfl⟩ := cell_addr (hcell 0 (by omega)).1
    have each : ∀ i, i < n → ∃ q : List Int, ∃ ai ci, W.cell? ⟨b, off + i, none⟩ = some (.slice ai q.length ci) ∧ Bs W W.heap.size ai q ∧ (ai = none → q.length = 0 ∧ ci = 0) := by
      intro i hi
      obtain ⟨h1, h2⟩ := hcell i (by omega)
      rw [add_off] at h1
      obtain ⟨ai, ni, ci, l, hV, hl', _, hb, ha⟩ := bytes_cell' h2
      subst hl'
      exact ⟨l, ai, ci, by rw [h1, hV], hb, ha⟩
    obtain ⟨q, hq⟩ := Go.Deep.choose_lt each
    refine ⟨some ⟨b, off, none⟩, n, m, (List.range n).map q, rfl, by simp, fun hp => ⟨b, off, rfl, ?_, fun i hi => ?_⟩⟩
    · obtain ⟨_, _, h1, _⟩ := hq 0 (by omega)
      exact cell_lt h1
    · simp only [List.length_map, List.length_range] at hi
      have : ((List.range n).map q).getD i [] = q i := by simp [List.getD_eq_getElem?_getD, hi]
      rw [this]
      exact hq i hi
end
end Go.Proofs.YtpnnfekfoomgaaaDoor
