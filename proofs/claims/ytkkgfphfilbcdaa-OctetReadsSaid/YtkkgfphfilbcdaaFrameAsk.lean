/- A slice of asks that came in, opened. Condition: none. -/
import Derived.Test.YtkkgfphfilbcdaaFrame
import Derived.Test.YtkkgfphfilbcdaaWReads
import Derived.Deep.SlicePairs
set_option linter.unusedVariables false
namespace Go.Proofs.Ytkkgfphfilbcdaa
open Go.ChangeShapes Go.WideShapes Go.ChangeAt Go.RowKit
theorem addr_add (b off i : Nat) : (⟨b, off, none⟩ : Addr).add i = ⟨b, off + i, none⟩ := by unfold Addr.add; split <;> simp_all
def numIn : Value → Int | .int _ n => n | _ => 0
section
variable {H : Type} {enc : TypeId × Value → H} {W : World} {t : TypeId} {ts : List TypeId} {vs : List Value} {ds : List (DataW H)} {ps : List MemPlace}
theorem Given.asks_ {e : TypeId} {f0 f1 : Field} (h : Given H enc W (t :: ts) vs ds ps) (hu : Try.prog.underlying t = some (.slice e)) (he : Try.prog.underlying e = some (.struct #[f0, f1])) (ce : Try.prog.cellsOf e = 2) (o0 : f0.offset = 0) (o1 : f1.offset = 1)
    (c0 : Try.prog.cellsOf f0.type = 1) (c1 : Try.prog.cellsOf f1.type = 1) (hb : Try.prog.bytesOf e = 16) (u0 : Try.prog.underlying f0.type = some (.int .u8)) (u1 : Try.prog.underlying f1.type = some (.int .i64)) :
    ∃ a n c q vs' ds' qs, vs = .slice a n c :: vs' ∧ q.length = n ∧ n ≤ 140737488351232 ∧ Asks W W.heap.size a q ∧ Given H enc W ts vs' ds' qs := by
  obtain ⟨v, vs', d, ds', p, qs, rfl, rfl, rfl, h0, ⟨base, hv⟩, hreach, _, r⟩ := h.cons_
  obtain ⟨a, n, c, rfl⟩ := okWide_slice hu hv
  obtain ⟨fuel, hf⟩ := h0
  rcases Go.Deep.open_slice_pairs hu he ce o0 o1 c0 c1 hf with ⟨hcs, _⟩ | ⟨x, n', c', m, fu, V0, V1, D0, D1, P0, P1, hcs, _, hl, hm, hmm, hd, hcell⟩
  · simp [Value.cells] at hcs
    obtain ⟨rfl, rfl, rfl⟩ := hcs
    exact ⟨none, 0, 0, [], vs', ds', qs, rfl, rfl, by decide, ⟨fun q hq => (by cases hq), fun hn => absurd hn (by simp)⟩, r⟩
  · simp [Value.cells] at hcs
    obtain ⟨rfl, rfl, rfl⟩ := hcs
    have hmc : m = c := by simpa using hmm
    subst hmc
    have hd' := congrArg Prod.fst hd
    simp only at hd'
    have hr := sized_slice hreach (j := 0) (t := t) (e := e) rfl (by rw [hd']; rfl) hu
    rw [hb] at hr
    simp only [List.length_map, List.length_range] at hr
    have hR : reachBytes = 140737488351232 := by decide
    have hint : ∀ i, i < m → V0 i = .int .u8 (numIn (V0 i)) ∧ (0 ≤ numIn (V0 i) ∧ numIn (V0 i) ≤ 255) ∧ V1 i = .int .i64 (numIn (V1 i)) ∧ -9223372036854775808 ≤ numIn (V1 i) ∧ numIn (V1 i) ≤ 9223372036854775807 := fun i hi => by
      obtain ⟨_, _, t0, t1⟩ := hcell i hi
      obtain ⟨k0, e0, _, w0⟩ := DataW.trod_int u0 t0
      obtain ⟨k1, e1, _, w1⟩ := DataW.trod_int u1 t1
      simp only [List.cons.injEq, and_true] at e0 e1
      rw [e0, e1]
      exact ⟨rfl, bd_u8 w0, rfl, bd_i64 w1⟩
    refine ⟨some x, n, m, (List.range n).map fun i => (numIn (V0 i), numIn (V1 i)), vs', ds', qs, rfl, by simp, by omega, ⟨?_, fun hp => ?_⟩, r⟩
    · intro q hq
      obtain ⟨i, hi, rfl⟩ := List.mem_map.1 hq
      have := hint i (by have := List.mem_range.1 hi; omega)
      exact ⟨this.2.1, this.2.2.2⟩
    · have hn : 0 < n := by simpa using hp
      have h00 := (hcell 0 (by omega)).1
      have hspot : x.spot = none := by simpa [Addr.add] using World.cell?_spot h00
      obtain ⟨b, off, spot⟩ := x
      simp only at hspot
      subst hspot
      have e1 := addr_add b off
      refine ⟨b, off, rfl, cell_lt (by rw [e1] at h00; exact h00), fun i hi => ?_⟩
      simp only [List.length_map, List.length_range] at hi
      obtain ⟨q0, q1, _, _⟩ := hcell i (by omega)
      obtain ⟨v0, _, v1, _⟩ := hint i (by omega)
      rw [e1] at q0 q1
      rw [q0, v0]
      rw [Nat.add_assoc, q1, v1]
      simp [List.getD_eq_getElem?_getD, hi, numIn]
end
end Go.Proofs.Ytkkgfphfilbcdaa
