/- The asks of layer 4's laws, a slice of structs of a byte, two integers and a slice of bytes, opened. Condition: none. -/
import Derived.Test.YtfgifimmdkiejaaArgs
import Derived.ChangeSame
set_option linter.unusedVariables false
namespace Go.Proofs.Ytfgifimmdkiejaa
open Go.ChangeShapes Go.WideShapes Go.ChangeAt Go.RowKit

/-- one ask -/
structure Ask where
  kind : Int
  n : Int
  v : Int
  b : List Int
instance : Inhabited Ask := ⟨⟨0, 0, 0, []⟩⟩
/-- the cells of one ask -/
def AskAt (w : World) (B : Nat) (b off : Nat) (q : Ask) : Prop :=
  (0 ≤ q.kind ∧ q.kind ≤ 255) ∧ (-9223372036854775808 ≤ q.n ∧ q.n ≤ 9223372036854775807) ∧ (-9223372036854775808 ≤ q.v ∧ q.v ≤ 9223372036854775807) ∧
  w.cell? ⟨b, off, none⟩ = some (.int .u8 q.kind) ∧ w.cell? ⟨b, off + 1, none⟩ = some (.int .i64 q.n) ∧ w.cell? ⟨b, off + 2, none⟩ = some (.int .i64 q.v) ∧
  ∃ a c, w.cell? ⟨b, off + 3, none⟩ = some (.slice a q.b.length c) ∧ Bs w B a q.b ∧ (a = none → q.b.length = 0 ∧ c = 0)
/-- the asks as they lie in memory -/
def Asks (w : World) (B : Nat) (a : Option Addr) (l : List Ask) : Prop :=
  0 < l.length → ∃ b off, a = some ⟨b, off, none⟩ ∧ b < B ∧ ∀ i, i < l.length → AskAt w B b (off + i * 4) (l.getD i default)
theorem AskAt.below {w w' : World} {B b off : Nat} {q : Ask} (h : AskAt w B b off q) (hlt : b < B) (hb : Below B w w') : AskAt w' B b off q := by
  obtain ⟨h1, h2, h3, h4, h5, h6, a, c, h7, h8, h9⟩ := h
  exact ⟨h1, h2, h3, (hb.cell (p := ⟨b, _, none⟩) hlt).trans h4, (hb.cell (p := ⟨b, _, none⟩) hlt).trans h5, (hb.cell (p := ⟨b, _, none⟩) hlt).trans h6, a, c, (hb.cell (p := ⟨b, _, none⟩) hlt).trans h7, h8.below hb, h9⟩
theorem Asks.below {w w' : World} {B : Nat} {a : Option Addr} {l : List Ask} (h : Asks w B a l) (hb : Below B w w') : Asks w' B a l := fun hn => by
  obtain ⟨b, off, e, hlt, hc⟩ := h hn
  exact ⟨b, off, e, hlt, fun i hi => (hc i hi).below hlt hb⟩
theorem Asks.at_ {w : World} {B : Nat} {a : Option Addr} {l : List Ask} (h : Asks w B a l) {i : Nat} (hi : i < l.length) : ∃ b off, a = some ⟨b, off, none⟩ ∧ b < B ∧ AskAt w B b (off + i * 4) (l.getD i default) := by
  obtain ⟨b, off, e, hlt, hc⟩ := h (by omega)
  exact ⟨b, off, e, hlt, hc i hi⟩

section
variable {H : Type} {enc : TypeId × Value → H} {K : Option Nat} {W : World} {t e : TypeId} {v : Value} {d : DataW H} {p : List MemPlace}
/-- a slice's datum by one cell -/
theorem bytes_cell {fuel : Nat} {u : Value} {x : DataW H × List MemPlace} (h : DataW.trod enc Try.prog W 0 (fun _ => true) true fuel 22 [u] = some x) :
    ∃ a n c l, u = .slice a n c ∧ l.length = n ∧ n ≤ c ∧ Bs W W.heap.size a l ∧ (a = none → l.length = 0 ∧ c = 0) := by
  rcases open_ints Try.underlying22 Try.underlying5 (by kernel_rfl) h with ⟨hcs, _⟩ | ⟨x, n, c, zs, hcs, _, hl, hm, hz, hd, hcell, hwz⟩
  · injection hcs with hcs; subst hcs
    exact ⟨none, 0, 0, [], rfl, rfl, Nat.le_refl _, Bs.nil_ _ _ _, fun _ => ⟨rfl, rfl⟩⟩
  · injection hcs with hcs; subst hcs
    have hz' : zs.length = c := by simpa using hz
    refine ⟨some x, n, c, zs.take n, rfl, by rw [List.length_take]; omega, hl, ⟨fun b hb => bd_u8 (hwz b (List.mem_of_mem_take hb)), fun hp => ?_⟩, fun h => by cases h⟩
    have hn : n ≤ zs.length := by omega
    have hlen : (zs.take n).length = n := by rw [List.length_take]; omega
    have h00 := hcell 0 (by omega)
    obtain ⟨b, off, rfl⟩ := cell_addr h00
    refine ⟨b, off, rfl, cell_lt (by rw [add_off] at h00; exact h00), fun i hi => ?_⟩
    rw [hlen] at hi
    have := hcell i (by omega)
    rw [add_off] at this
    rw [this]
    simp [List.getD_eq_getElem?_getD, hi]
theorem One.asks {f0 f1 f2 f3 : Field} (h : One H enc K W t v d p) (hu : Try.prog.underlying t = some (.slice e)) (he : Try.prog.underlying e = some (.struct #[f0, f1, f2, f3])) (ce : Try.prog.cellsOf e = 4) (o0 : f0.offset = 0) (o1 : f1.offset = 1) (o2 : f2.offset = 2) (o3 : f3.offset = 3)
    (c0 : Try.prog.cellsOf f0.type = 1) (c1 : Try.prog.cellsOf f1.type = 1) (c2 : Try.prog.cellsOf f2.type = 1) (c3 : Try.prog.cellsOf f3.type = 1) (hb : Try.prog.bytesOf e = 48) (u0 : Try.prog.underlying f0.type = some (.int .u8)) (u1 : Try.prog.underlying f1.type = some (.int .i64)) (u2 : Try.prog.underlying f2.type = some (.int .i64)) (u3 : f3.type = 22) :
    ∃ a n c l, v = .slice a n c ∧ l.length = n ∧ n ≤ 140737488351232 ∧ Asks W W.heap.size a l := by
  obtain ⟨base, hv⟩ := h.size
  obtain ⟨a, n, c, rfl⟩ := okWide_slice hu hv
  obtain ⟨fuel, hf⟩ := h.read
  rcases Go.Deep.open_slice hu hf with ⟨hcs, _⟩ | ⟨x, n', c', m, fu, D, Pl, hcs, _, hl, hm, hmm, hd, hcell⟩
  · simp [Value.cells] at hcs
    obtain ⟨rfl, rfl, rfl⟩ := hcs
    exact ⟨none, 0, 0, [], rfl, rfl, by decide, fun hn => absurd hn (by simp)⟩
  · simp [Value.cells] at hcs
    obtain ⟨rfl, rfl, rfl⟩ := hcs
    have hmc : m = c := by simpa using hmm
    subst hmc
    have hd' := congrArg Prod.fst hd
    simp only at hd'
    have hr := sized_slice h.reach (j := 0) (t := t) (e := e) rfl (by rw [hd']; rfl) hu
    rw [hb] at hr
    simp only [List.length_map, List.length_range] at hr
    have hR : reachBytes = 140737488351232 := by decide
    by_cases hn0 : n = 0
    · subst hn0
      exact ⟨some x, 0, m, [], rfl, rfl, by omega, fun hn => absurd hn (by simp)⟩
    have hx0 : ∃ b off, x = ⟨b, off, none⟩ := by
      obtain ⟨cs', h1, h2⟩ := hcell 0 (by omega)
      rw [ce] at h1
      obtain ⟨_, hlen, hc2⟩ := World.cells?_some h1
      have h3 := hc2 0 (by omega)
      rw [Go.Deep.add_add, Nat.zero_mul, Nat.add_zero, List.getElem?_eq_getElem (by omega)] at h3
      exact cell_addr (x := x) h3
    obtain ⟨b, off, rfl⟩ := hx0
    have each : ∀ i, i < n → ∃ q : Ask, AskAt W W.heap.size b (off + i * 4) q := by
      intro i hi
      obtain ⟨cs', h1, h2⟩ := hcell i (by omega)
      rw [ce, add_off] at h1
      obtain ⟨_, hlen, hc2⟩ := World.cells?_some h1
      obtain ⟨xs, k, hk, hxy, _, hxl, hff⟩ := DataW.trod_struct he h2
      match xs, hxl, cs', hlen with
      | [y0, y1, y2, y3], _, [v0, v1, v2, v3], _ =>
        have g0 := hff 0 f0 rfl
        have g1 := hff 1 f1 rfl
        have g2 := hff 2 f2 rfl
        have g3 := hff 3 f3 rfl
        simp [o0, c0] at g0
        simp [o1, c1] at g1
        simp [o2, c2] at g2
        simp [o3, c3] at g3
        rw [u3] at g3
        obtain ⟨z0, e0, _, w0⟩ := DataW.trod_int u0 g0
        obtain ⟨z1, e1, _, w1⟩ := DataW.trod_int u1 g1
        obtain ⟨z2, e2, _, w2⟩ := DataW.trod_int u2 g2
        obtain ⟨a3, n3, c3', l3, e3, hl3, _, hb3, hn3⟩ := bytes_cell g3
        simp only [List.cons.injEq, and_true] at e0 e1 e2
        subst e0; subst e1; subst e2; subst e3; subst hl3
        have k0 := hc2 0 (by simp)
        have k1 := hc2 1 (by simp)
        have k2 := hc2 2 (by simp)
        have k3 := hc2 3 (by simp)
        rw [add_off] at k0 k1 k2 k3
        exact ⟨⟨z0, z1, z2, l3⟩, bd_u8 w0, bd_i64 w1, bd_i64 w2, by simpa using k0, by simpa using k1, by simpa using k2, a3, c3', by simpa using k3, hb3, hn3⟩
    obtain ⟨q, hq⟩ := Go.Deep.choose_lt each
    refine ⟨some ⟨b, off, none⟩, n, m, (List.range n).map q, rfl, by simp, by omega, fun hp => ⟨b, off, rfl, ?_, fun i hi => ?_⟩⟩
    · have := (hq 0 (by omega)).2.2.2.1
      exact cell_lt this
    · simp only [List.length_map, List.length_range] at hi
      have : ((List.range n).map q).getD i default = q i := by simp [List.getD_eq_getElem?_getD, hi]
      rw [this]
      exact hq i hi
end
end Go.Proofs.Ytfgifimmdkiejaa
