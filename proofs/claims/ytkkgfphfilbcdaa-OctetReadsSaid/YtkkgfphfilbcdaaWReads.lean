/- The walk of the law OctetReads: it returns true and turns nothing that was there. Condition: the bytes and the asks lie below the heap's size, the numbers fit their kinds. -/
import Derived.Test.YtkkgfphfilbcdaaOctRb
set_option linter.unusedVariables false
namespace Go.Proofs.Ytkkgfphfilbcdaa
open Go.RowKit

/-- the asks of the law, as they lie in memory -/
def Asks (w : World) (B : Nat) (a : Option Addr) (l : List (Int × Int)) : Prop :=
  (∀ q ∈ l, (0 ≤ q.1 ∧ q.1 ≤ 255) ∧ -9223372036854775808 ≤ q.2 ∧ q.2 ≤ 9223372036854775807) ∧
  (0 < l.length → ∃ b off, a = some ⟨b, off, none⟩ ∧ b < B ∧ ∀ i, i < l.length → w.cell? ⟨b, off + i * 2, none⟩ = some (.int .u8 (l.getD i (0, 0)).1) ∧ w.cell? ⟨b, off + i * 2 + 1, none⟩ = some (.int .i64 (l.getD i (0, 0)).2))
theorem Asks.below {w w' : World} {B : Nat} {a : Option Addr} {l : List (Int × Int)} (h : Asks w B a l) (hb : Below B w w') : Asks w' B a l :=
  ⟨h.1, fun hn => by
    obtain ⟨b, off, e, hlt, hc⟩ := h.2 hn
    exact ⟨b, off, e, hlt, fun i hi => ⟨(hb.cell (p := ⟨b, _, none⟩) hlt).trans (hc i hi).1, (hb.cell (p := ⟨b, _, none⟩) hlt).trans (hc i hi).2⟩⟩⟩
theorem Asks.at_ {w : World} {B : Nat} {a : Option Addr} {l : List (Int × Int)} (h : Asks w B a l) {i : Nat} (hi : i < l.length) : ∃ b off, a = some ⟨b, off, none⟩ ∧ b < B ∧ w.cell? ⟨b, off + i * 2, none⟩ = some (.int .u8 (l.getD i (0, 0)).1) ∧ w.cell? ⟨b, off + i * 2 + 1, none⟩ = some (.int .i64 (l.getD i (0, 0)).2) ∧
    (0 ≤ (l.getD i (0, 0)).1 ∧ (l.getD i (0, 0)).1 ≤ 255) ∧ -9223372036854775808 ≤ (l.getD i (0, 0)).2 ∧ (l.getD i (0, 0)).2 ≤ 9223372036854775807 := by
  obtain ⟨b, off, e, hlt, hc⟩ := h.2 (by omega)
  have hm : l.getD i (0, 0) ∈ l := by rw [List.getD_eq_getElem?_getD, List.getElem?_eq_getElem hi]; exact List.getElem_mem hi
  exact ⟨b, off, e, hlt, (hc i hi).1, (hc i hi).2, h.1 _ hm⟩

/-- what New has made, with the row that the reader goes through -/
def NewRow (w : World) (l : List Int) (e : Ending) (w' : World) : Prop := ∃ g a c, e = .returned (.pointer (some ⟨g, 0, none⟩)) ∧ w.heap.size ≤ g ∧
  w'.heap[g]? = some (.cells #[.slice a l.length c, .int .i64 0, .bool false] 73 (0, 0)) ∧ w'.ownsRow w.heap.size 5 1 (.slice a l.length c) l.length (l.map (Value.int .u8)) ∧ (∀ k, (Value.slice a l.length c).ownBlock = some k → k < g) ∧ Below w.heap.size w w'
theorem octNewRow (a : Option Addr) (n c : Nat) (l : List Int) (hn : l.length = n) (hm : n ≤ 140737488355328) (w : World) (hb : Bs w w.heap.size a l) :
    Calls Try.prog 38 #[.slice a n c] w (NewRow w l) := by
  have hc := octClone a n c l hn hm w hb
  have HC := Lib.hid hc; clear hc
  subst hn
  go_enter Try.func38, Try.ntmps38
  go_wp2_with (go_at_call 59; refine HC.out.mono ?_; rintro e w1 ⟨a1, c1, rfl, hown, hbel⟩)
  go_ret
  exact ⟨w1.heap.size, a1, c1, rfl, hbel.size, by simpa using heap_alloc_new w1 (.cells #[.slice a1 l.length c1, .int .i64 0, .bool false] 73), hown.alloc _, fun k e => (hown.lt k e).2, hbel.alloc hbel.size _⟩

theorem bs_under {w : World} {base B : Nat} {t : TypeId} {a : Option Addr} {c : Nat} {l : List Int} (h : w.ownsRow base t 1 (.slice a l.length c) l.length (l.map (Value.int .u8))) (hl : Bytes l) (hB : ∀ k, (Value.slice a l.length c).ownBlock = some k → k < B) : Bs w B a l := by
  obtain ⟨_, h2⟩ := Bs.of_own h hl
  refine ⟨hl, fun hn => ?_⟩
  obtain ⟨b, off, e, _, hc⟩ := h2 hn
  exact ⟨b, off, e, hB b (by rw [e]; rfl), hc⟩

/-- a row of bytes does not lie in a block of a struct whose cells are no bytes -/
theorem bs_ne {w : World} {B g : Nat} {a : Option Addr} {l : List Int} {x y z : Value} {t : TypeId} (hb : Bs w B a l) (hh : w.heap[g]? = some (.cells #[x, y, z] t (0, 0))) (hx : ∀ v, x ≠ .int .u8 v) (hy : ∀ v, y ≠ .int .u8 v) (hz : ∀ v, z ≠ .int .u8 v) {w' : World} (ho : Only g w w') (hB : B ≤ w.heap.size) : Bs w' B a l := by
  refine ⟨hb.1, fun hn => ?_⟩
  obtain ⟨b, off, e, hlt, hc⟩ := hb.2 hn
  have hne : b ≠ g := by
    rintro rfl
    have h0 := hc 0 hn
    rw [blk_cell hh] at h0
    simp only [Nat.add_zero] at h0
    rcases off with _ | _ | _ | off <;> simp at h0
    · exact hx _ h0
    · exact hy _ h0
    · exact hz _ h0
  exact ⟨b, off, e, hlt, fun i hi => (World.cell?_of_block (w := w) (ho.block b (by omega) (by intro e; injection e with e; exact hne e))).trans (hc i hi)⟩
theorem rd_heap {w : World} {g : Nat} {l : List Int} {p : Nat} {bad : Bool} (h : Rd w g l p bad) : ∃ x y z, w.heap[g]? = some (.cells #[x, y, z] 73 (0, 0)) ∧ (∀ v, x ≠ .int .u8 v) ∧ (∀ v, y ≠ .int .u8 v) ∧ (∀ v, z ≠ .int .u8 v) := by
  obtain ⟨a, c, hh, _⟩ := h
  exact ⟨_, _, _, hh, fun v => by simp, fun v => by simp, fun v => by simp⟩
theorem rx_heap {w : World} {g : Nat} {l : List Int} {p : Nat} {bad : Bool} (h : Rx w g l p bad) : ∃ x y z, w.heap[g]? = some (.cells #[x, y, z] 50 (0, 0)) ∧ (∀ v, x ≠ .int .u8 v) ∧ (∀ v, y ≠ .int .u8 v) ∧ (∀ v, z ≠ .int .u8 v) := by
  obtain ⟨a, c, hh, _⟩ := h
  exact ⟨_, _, _, hh, fun v => by simp, fun v => by simp, fun v => by simp⟩
theorem rx_keeps {w w' : World} {gr gx : Nat} {l : List Int} {p q : Nat} {bad bad' : Bool} (h : Rx w gx l p bad) (hr : Rd w gr l q bad') (hne : gx ≠ gr) (ho : Only gr w w') : Rx w' gx l p bad := by
  obtain ⟨a, c, hh, h1, h2, h3, h4, h5⟩ := h
  obtain ⟨x, y, z, hg, hx, hy, hz⟩ := rd_heap hr
  have hlt := blk_lt hh
  exact ⟨a, c, (ho.block gx hlt (by intro e; injection e with e; exact hne e)).trans hh, h1, h2, bs_ne h3 hg hx hy hz ho (Nat.le_of_lt hlt), h4, h5⟩
theorem rd_keeps {w w' : World} {gr gx : Nat} {l : List Int} {p q : Nat} {bad bad' : Bool} (h : Rd w gr l p bad) (hr : Rx w gx l q bad') (hne : gr ≠ gx) (ho : Only gx w w') : Rd w' gr l p bad := by
  obtain ⟨a, c, hh, h1, h2, h3, h4⟩ := h
  obtain ⟨x, y, z, hg, hx, hy, hz⟩ := rx_heap hr
  have hlt := blk_lt hh
  exact ⟨a, c, (ho.block gr hlt (by intro e; injection e with e; exact hne e)).trans hh, h1, h2, bs_ne h3 hg hx hy hz ho (Nat.le_of_lt hlt), h4⟩
theorem rd_low {w w' : World} {g : Nat} {l : List Int} {p : Nat} {bad : Bool} (h : Rd w g l p bad) (hb : Below w.heap.size w w') : Rd w' g l p bad := by
  obtain ⟨a, c, hh, h1, h2, h3, h4⟩ := h
  have hlt := blk_lt hh
  exact ⟨a, c, (hb.block g hlt).trans hh, h1, h2, h3.below (hb.mono (Nat.le_of_lt hlt)), h4⟩
theorem rx_low {w w' : World} {g : Nat} {l : List Int} {p : Nat} {bad : Bool} (h : Rx w g l p bad) (hb : Below w.heap.size w w') : Rx w' g l p bad := by
  obtain ⟨a, c, hh, h1, h2, h3, h4, h5⟩ := h
  have hlt := blk_lt hh
  exact ⟨a, c, (hb.block g hlt).trans hh, h1, h2, h3.below (hb.mono (Nat.le_of_lt hlt)), h4, h5⟩
end Go.Proofs.Ytkkgfphfilbcdaa
