/- Arguments of whatever type that a law is handed: one by one, opened as slices of integers, arrays of integers, slices of structs. Condition: none. -/
import Derived.Test.YtpnnfekfoomgaaaFrame
import Derived.Deep.Slices
set_option linter.unusedVariables false
set_option maxRecDepth 100000
namespace Go.Proofs.Ytpnnfekfoomgaaa
open Go.ChangeShapes Go.WideShapes Go.ChangeAt Go.RowKit

/-- one argument -/
structure One (H : Type) (enc : TypeId × Value → H) (K : Option Nat) (W : World) (t : TypeId) (v : Value) (d : DataW H) (p : List MemPlace) : Prop where
  read : DataW.Trod enc Try.prog W 0 (fun _ => true) true t v d p
  size : ∃ base, Value.okWide Try.prog W .any base t v
  reach : (DataW.weightsEach Try.prog [t] [d]).all (· ≤ reachBytes) = true
  low : ∀ x ∈ p, x.block < W.heap.size
  bulk : ∀ k, K = some k → Rows.uptoBulk d ≤ k
section
variable {H : Type} {enc : TypeId × Value → H} {K : Option Nat} {W : World} {t : TypeId} {ts : List TypeId} {v : Value} {d : DataW H} {p : List MemPlace} {vs : List Value} {ds : List (DataW H)} {ps : List MemPlace}
theorem Given.one_ (h : Given H enc K W (t :: ts) vs ds ps) : ∃ v vs' d ds' p q, vs = v :: vs' ∧ One H enc K W t v d p ∧ Given H enc K W ts vs' ds' q := by
  obtain ⟨v, vs', d, ds', p, q, rfl, rfl, rfl, h0, hv, hr, hl, r, hb⟩ := h.cons_
  refine ⟨v, vs', d, ds', p, q, rfl, ⟨h0, hv, ?_, hl, hb⟩, r⟩
  simp only [DataW.weightsEach, List.all_append, Bool.and_eq_true] at hr ⊢
  exact ⟨hr.1, by simp⟩
theorem cell_addr {x : Addr} {u : Value} {w : World} (h : w.cell? (x.add 0) = some u) : ∃ b off, x = ⟨b, off, none⟩ := by
  have hspot : x.spot = none := by simpa [Addr.add] using World.cell?_spot h
  obtain ⟨b, off, spot⟩ := x
  simp only at hspot
  subst hspot
  exact ⟨b, off, rfl⟩
theorem add_off (b off i : Nat) : (⟨b, off, none⟩ : Addr).add i = ⟨b, off + i, none⟩ := by unfold Addr.add; split <;> simp_all
end

/-- the slice that begins at a holds the integers l, in a block below B -/
def Ints (k : IntKind) (w : World) (B : Nat) (a : Option Addr) (l : List Int) : Prop :=
  (∀ n ∈ l, (Lit.int k n).wf = true) ∧ (0 < l.length → ∃ b off, a = some ⟨b, off, none⟩ ∧ b < B ∧ ∀ i, i < l.length → w.cell? ⟨b, off + i, none⟩ = some (.int k (l.getD i 0)))
theorem Ints.below {k : IntKind} {w w' : World} {B : Nat} {a : Option Addr} {l : List Int} (h : Ints k w B a l) (hb : Below B w w') : Ints k w' B a l :=
  ⟨h.1, fun hn => by
    obtain ⟨b, off, e, hlt, hc⟩ := h.2 hn
    exact ⟨b, off, e, hlt, fun i hi => (hb.cell (p := ⟨b, _, none⟩) hlt).trans (hc i hi)⟩⟩
theorem Ints.at_ {k : IntKind} {w : World} {B : Nat} {a : Option Addr} {l : List Int} (h : Ints k w B a l) {i : Nat} (hi : i < l.length) : ∃ b off, a = some ⟨b, off, none⟩ ∧ b < B ∧ w.cell? ⟨b, off + i, none⟩ = some (.int k (l.getD i 0)) ∧ (Lit.int k (l.getD i 0)).wf = true := by
  obtain ⟨b, off, e, hlt, hc⟩ := h.2 (by omega)
  have hm : l.getD i 0 ∈ l := by rw [List.getD_eq_getElem?_getD, List.getElem?_eq_getElem hi]; exact List.getElem_mem hi
  exact ⟨b, off, e, hlt, hc i hi, h.1 _ hm⟩
theorem bd_u16 {n : Int} (h : (Lit.int .u16 n).wf = true) : 0 ≤ n ∧ n ≤ 65535 := by
  simp [Lit.wf, IntKind.min, IntKind.max, IntKind.signed, IntKind.bits] at h; omega

section
variable {H : Type} {enc : TypeId × Value → H} {K : Option Nat} {W : World} {t e : TypeId} {v : Value} {d : DataW H} {p : List MemPlace}
theorem One.ints {k : IntKind} (h : One H enc K W t v d p) (hu : Try.prog.underlying t = some (.slice e)) (he : Try.prog.underlying e = some (.int k)) (hc : Try.prog.cellsOf e = 1) {eb : Nat} (hb : Try.prog.bytesOf e = eb) :
    ∃ a n c l, v = .slice a n c ∧ l.length = n ∧ n ≤ c ∧ c * eb ≤ 140737488351232 ∧ (∀ q, K = some q → c ≤ q) ∧ (a = none → c = 0) ∧ Ints k W W.heap.size a l := by
  obtain ⟨base, hv⟩ := h.size
  obtain ⟨a, n, c, rfl⟩ := okWide_slice hu hv
  obtain ⟨fuel, hf⟩ := h.read
  have hbulk := h.bulk
  rcases open_ints hu he hc hf with ⟨hcs, _⟩ | ⟨x, n', c', zs, hcs, _, hl, hm, hz, hd, hcell, hwz⟩
  · simp [Value.cells] at hcs
    obtain ⟨rfl, rfl, rfl⟩ := hcs
    exact ⟨none, 0, 0, [], rfl, rfl, Nat.le_refl _, by simp, fun _ _ => Nat.zero_le _, fun _ => rfl, ⟨fun n hn => (by cases hn), fun hn => absurd hn (by simp)⟩⟩
  · simp [Value.cells] at hcs
    obtain ⟨rfl, rfl, rfl⟩ := hcs
    have hz' : zs.length = c := by simpa using hz
    have hd' : d = .slice (lits k (zs.take n)) (lits k (zs.drop n)) := congrArg Prod.fst hd
    have hr := sized_slice h.reach (j := 0) (t := t) (e := e) rfl (by rw [hd']; rfl) hu
    rw [hb] at hr
    have hlens : (lits (H := H) k (zs.take n)).length + (lits (H := H) k (zs.drop n)).length = zs.length := by simp [lits]; omega
    rw [hlens, hz'] at hr
    have hR : reachBytes = 140737488351232 := by decide
    refine ⟨some x, n, c, zs.take n, rfl, by rw [List.length_take]; omega, hl, by omega, fun q hq => ?_, fun hq => (by cases hq), ⟨fun b hb => hwz b (List.mem_of_mem_take hb), fun hp => ?_⟩⟩
    · have := hbulk q hq
      rw [hd'] at this
      simp only [Rows.uptoBulk] at this
      have h1 := bulk_len (H := H) (lits (H := H) k (zs.take n)); have h2 := bulk_len (H := H) (lits (H := H) k (zs.drop n)); omega
    have hn : n ≤ zs.length := by omega
    have hlen : (zs.take n).length = n := by rw [List.length_take]; omega
    have h00 := hcell 0 (by omega)
    obtain ⟨b, off, rfl⟩ := cell_addr h00
    refine ⟨b, off, rfl, cell_lt (by rw [add_off] at h00; exact h00), fun i hi => ?_⟩
    rw [hlen] at hi
    have := hcell i (by omega)
    rw [add_off] at this
    rw [this]
    simp [List.getD_eq_getElem?_getD, hi]

theorem mapM_ints {k : IntKind} {fuel base : Nat} {sp : Nat → Bool} {held : Bool} {e : TypeId} (he : Try.prog.underlying e = some (.int k)) : ∀ (cs : List Value) (L : List Nat) (xs : List (DataW H × List MemPlace)),
    (L.mapM fun i => DataW.trod enc Try.prog W base sp held fuel e ((cs.drop (i * 1)).take 1)) = some xs → ∀ i ∈ L, ∃ n, cs[i]? = some (.int k n) ∧ (Lit.int k n).wf = true
  | cs, [], xs, h => by simp
  | cs, i :: L, xs, h => by
    rw [List.mapM_cons] at h
    simp only [bind, Option.bind_eq_some_iff, pure, Option.some.injEq] at h
    obtain ⟨y, hy, ys, hys, rfl⟩ := h
    intro j hj
    rcases List.mem_cons.1 hj with rfl | hj
    · obtain ⟨a, ea, _, wa⟩ := DataW.trod_int he hy
      refine ⟨a, ?_, wa⟩
      have h1 : ((cs.drop (j * 1)).take 1)[0]? = some (.int k a) := by rw [ea]; rfl
      simpa using h1
    · exact mapM_ints he cs L ys hys j hj
theorem One.arr {k : IntKind} {n : Nat} (h : One H enc K W t v d p) (hu : Try.prog.underlying t = some (.array n e)) (he : Try.prog.underlying e = some (.int k)) (hc : Try.prog.cellsOf e = 1) (ht : Try.prog.cellsOf t = n) :
    ∃ l : List Int, v = .agg (l.map (Value.int k)).toArray ∧ l.length = n ∧ ∀ x ∈ l, (Lit.int k x).wf = true := by
  obtain ⟨base, hv⟩ := h.size
  simp only [Value.okWide, hu] at hv
  obtain ⟨cs, rfl, hcs, _⟩ := hv
  rw [ht] at hcs
  obtain ⟨fuel, hf⟩ := h.read
  cases fuel with
  | zero => simp [DataW.trod] at hf
  | succ m =>
    rw [DataW.trod_step] at hf
    unfold DataW.trodStep at hf
    simp only [hu, Value.cells, hc] at hf
    rw [if_pos (by rw [ht]; simpa using hcs)] at hf
    simp only [Option.map_eq_some_iff] at hf
    obtain ⟨ys, hy, _⟩ := hf
    have hall := mapM_ints he cs.toList _ ys hy
    have hget : ∀ i, i < n → ∃ x, cs.toList[i]? = some (.int k x) ∧ (Lit.int k x).wf = true := fun i hi => hall i (List.mem_range.2 hi)
    obtain ⟨f, hf⟩ := Go.Deep.choose_lt (n := n) (p := fun i x => cs.toList[i]? = some (.int k x) ∧ (Lit.int k x).wf = true) hget
    refine ⟨(List.range n).map f, ?_, by simp, fun x hx => ?_⟩
    · congr 1
      apply Array.ext'
      simp only [List.map_map]
      apply List.ext_getElem?
      intro i
      by_cases hi : i < n
      · rw [(hf i hi).1]; simp [hi]
      · rw [List.getElem?_eq_none (by simp; omega), List.getElem?_eq_none (by simp; omega)]
    · obtain ⟨i, hi, rfl⟩ := List.mem_map.1 hx
      exact (hf i (List.mem_range.1 hi)).2
end
end Go.Proofs.Ytpnnfekfoomgaaa
