/- What it is that a slice value of the model reads as a list of bytes in a world, and that this stays while nothing below a block number is written. No condition; no program is named. -/
import Derived.WalkKit
import Derived.ProofKit
import Derived.OpenShut
import Derived.Below
import Derived.Lib.Hide
import Derived.Laws.OwnMore
import Derived.Deep.Draws
import Derived.Deep.AppendLies
namespace Go.Proofs.YtbeekjfjfcaobaaDoor
open Go.RowKit

/-- a byte's numbers -/
def Bytes (l : List Int) : Prop := ∀ n ∈ l, 0 ≤ n ∧ n ≤ 255
/-- the slice that begins at a holds the bytes l, in a block below B -/
def Bs (w : World) (B : Nat) (a : Option Addr) (l : List Int) : Prop :=
  Bytes l ∧ (0 < l.length → ∃ b off, a = some ⟨b, off, none⟩ ∧ b < B ∧ ∀ i, i < l.length → w.cell? ⟨b, off + i, none⟩ = some (.int .u8 (l.getD i 0)))

theorem Bytes.at_ {l : List Int} (h : Bytes l) (i : Nat) : 0 ≤ l.getD i 0 ∧ l.getD i 0 ≤ 255 := by
  by_cases hi : i < l.length
  · rw [List.getD_eq_getElem?_getD, List.getElem?_eq_getElem hi]; exact h _ (List.getElem_mem hi)
  · rw [List.getD_eq_getElem?_getD, List.getElem?_eq_none (by omega)]; decide
theorem Bytes.nil : Bytes [] := fun _ h => by cases h
theorem Bytes.app {l m : List Int} (h : Bytes l) (k : Bytes m) : Bytes (l ++ m) := fun n hn => by
  rcases List.mem_append.1 hn with hn | hn
  · exact h n hn
  · exact k n hn
theorem Bytes.one {b : Int} (h : 0 ≤ b ∧ b ≤ 255) : Bytes [b] := fun n hn => by
  rcases List.mem_singleton.1 hn with rfl; exact h
theorem Bytes.take {l : List Int} (h : Bytes l) (k : Nat) : Bytes (l.take k) := fun n hn => h n (List.mem_of_mem_take hn)
theorem Bytes.drop {l : List Int} (h : Bytes l) (k : Nat) : Bytes (l.drop k) := fun n hn => h n (List.mem_of_mem_drop hn)
theorem Bytes.reverse {l : List Int} (h : Bytes l) : Bytes l.reverse := fun n hn => h n (List.mem_reverse.1 hn)

section
variable {w w' : World} {B B' : Nat} {a : Option Addr} {l : List Int}
theorem Bs.nil_ (w : World) (B : Nat) (a : Option Addr) : Bs w B a [] := ⟨Bytes.nil, fun h => absurd h (by simp)⟩
theorem Bs.at_ (h : Bs w B a l) {i : Nat} (hi : i < l.length) : ∃ b off, a = some ⟨b, off, none⟩ ∧ b < B ∧ w.cell? ⟨b, off + i, none⟩ = some (.int .u8 (l.getD i 0)) := by
  obtain ⟨b, off, e, hb, hc⟩ := h.2 (by omega)
  exact ⟨b, off, e, hb, hc i hi⟩
theorem Bs.keep (h : Bs w B a l) (hk : ∀ p : Addr, p.block < B → w'.cell? p = w.cell? p) : Bs w' B a l :=
  ⟨h.1, fun hn => by
    obtain ⟨b, off, e, hb, hc⟩ := h.2 hn
    exact ⟨b, off, e, hb, fun i hi => (hk _ hb).trans (hc i hi)⟩⟩
theorem Bs.below (h : Bs w B a l) (hb : Below B w w') : Bs w' B a l := h.keep fun _ hp => hb.cell hp
theorem Bs.more (h : Bs w B a l) (hB : B ≤ B') : Bs w B' a l :=
  ⟨h.1, fun hn => by
    obtain ⟨b, off, e, hb, hc⟩ := h.2 hn
    exact ⟨b, off, e, by omega, hc⟩⟩
theorem Bs.drewN (h : Bs w B a l) (n : Nat) : Bs (w.drewN n) B a l := h
theorem Bs.alloc (h : Bs w B a l) (hB : B ≤ w.heap.size) (o : Obj) : Bs (w.alloc o) B a l := h.keep fun p hp => World.cell?_alloc_lt w o p (by omega)
theorem Bs.setCell (h : Bs w B a l) {p : Addr} (hB : B ≤ p.block) (u : Value) : Bs (w.setCell p u) B a l :=
  h.keep fun q hq => World.cell?_setCell_other w p q u (fun e => by subst e; omega)
/-- a piece of a slice that is not empty -/
theorem Bs.cut {b off : Nat} (h : Bs w B (some ⟨b, off, none⟩) l) (lo n : Nat) (hn : lo + n ≤ l.length) : Bs w B (some ⟨b, off + lo, none⟩) ((l.drop lo).take n) := by
  refine ⟨(h.1.drop lo).take n, fun hp => ?_⟩
  have hl : ((l.drop lo).take n).length = n := by simp; omega
  obtain ⟨b', off', e, hb, hc⟩ := h.2 (by omega)
  injection e with e
  injection e with e1 e2
  subst e1; subst e2
  refine ⟨_, _, rfl, hb, fun i hi => ?_⟩
  have := hc (lo + i) (by omega)
  rw [show off + lo + i = off + (lo + i) by omega, this]
  simp [List.getD_eq_getElem?_getD, show i < n by omega]
theorem Bs.of_own {base : Nat} {t : TypeId} {c : Nat} (h : w.ownsRow base t 1 (.slice a l.length c) l.length (l.map (Value.int .u8))) (hl : Bytes l) : Bs w w.heap.size a l := by
  refine ⟨hl, fun hn => ?_⟩
  obtain ⟨g, cap, hv, _, hlt⟩ := h.form hn
  have hA : a = some ⟨g, 0, none⟩ := by injection hv
  subst hA
  refine ⟨g, 0, rfl, hlt, fun i hi => ?_⟩
  have := h.cells (g := g) rfl i (.int .u8 (l.getD i 0)) (by simp [List.getElem?_map, List.getElem?_eq_getElem hi])
  have e : (⟨g, 0, none⟩ : Addr).add i = ⟨g, 0 + i, none⟩ := by unfold Addr.add; split <;> simp_all
  rwa [e] at this
end

theorem own_cast {w : World} {base : Nat} {t : TypeId} {a : Option Addr} {c n n' k : Nat} {xs ys : List Value} (h : w.ownsRow base t k (.slice a n c) n xs) (hn : n = n') (hx : xs = ys) : w.ownsRow base t k (.slice a n' c) n' ys := by
  subst hn; subst hx; exact h
theorem own_base {w : World} {base base' : Nat} {t : TypeId} {v : Value} {n k : Nat} {xs : List Value} (h : w.ownsRow base t k v n xs) (hb : base' ≤ base) : w.ownsRow base' t k v n xs := by
  refine ⟨h.1, ?_⟩
  rcases h.2 with h2 | ⟨g, cap, cur, h1, h2, h3⟩
  · exact .inl h2
  · exact .inr ⟨g, cap, cur, h1, Nat.le_trans hb h2, h3⟩
theorem own_below {w w' : World} {base : Nat} {t : TypeId} {v : Value} {n k : Nat} {xs : List Value} (h : w.ownsRow base t k v n xs) (hb : Below w.heap.size w w') : w'.ownsRow base t k v n xs := by
  refine ⟨h.1, ?_⟩
  rcases h.2 with h2 | ⟨g, cap, cur, h1, h2, h3, h4⟩
  · exact .inl h2
  · have hg : g < w.heap.size := by
      rcases Nat.lt_or_ge g w.heap.size with q | q
      · exact q
      · rw [Array.getElem?_eq_none q] at h3; cases h3
    exact .inr ⟨g, cap, cur, h1, h2, (hb.block g hg).trans h3, h4⟩
theorem Bs.next {w w' : World} {a : Option Addr} {l : List Int} (h : Bs w w.heap.size a l) (hb : Below w.heap.size w w') : Bs w' w'.heap.size a l := (h.below hb).more hb.size
theorem below_next {b : Nat} {w0 w w' : World} (h : Below b w0 w) (hs : b ≤ w0.heap.size) (hb : Below w.heap.size w w') : Below b w0 w' := h.trans (hb.mono (Nat.le_trans hs h.size))
theorem own_shape {w : World} {base : Nat} {t : TypeId} {v : Value} {n k : Nat} {xs : List Value} (h : w.ownsRow base t k v n xs) : ∃ a c, v = .slice a n c := by
  rcases h.2 with ⟨rfl, rfl⟩ | ⟨g, cap, _, rfl, _⟩
  · exact ⟨_, _, rfl⟩
  · exact ⟨_, _, rfl⟩
/-- behind an append onto a row of the call's own nothing below the row's base has turned -/
theorem grown_below {w wr w1 : World} {base : Nat} {t : TypeId} {v : Value} {n k : Nat} {xs : List Value} {o : Obj} (hbel : Below base w wr) (hbase : base ≤ wr.heap.size) (hown : wr.ownsRow base t k v n xs)
    (hg : (wr.alloc o).grownBy w1 v.ownBlock) : Below base w w1 :=
  (hbel.alloc hbase o).grown hg (by simp; omega) fun j hj => (hown.lt j hj).1
end Go.Proofs.YtbeekjfjfcaobaaDoor
