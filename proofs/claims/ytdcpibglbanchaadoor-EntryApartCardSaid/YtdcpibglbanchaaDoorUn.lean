/- An unpacker: its blocks, and what a call of it turns. No condition. -/
import Derived.Test.YtdcpibglbanchaaDoorInf
import Derived.Test.YtdcpibglbanchaaDoorPr
import Derived.Test.YtdcpibglbanchaaDoorRd
import Derived.Test.YtdcpibglbanchaaDoorBitK
set_option linter.unusedVariables false
set_option maxRecDepth 100000
namespace Go.Proofs.YtdcpibglbanchaaDoor
open Go.RowKit

theorem own_keep' {w w' : World} {base : Nat} {t : TypeId} {v : Value} {n k : Nat} {xs : List Value} (h : w.ownsRow base t k v n xs) (hs : ∀ i, v.ownBlock = some i → w'.heap[i]? = w.heap[i]?) : w'.ownsRow base t k v n xs := by
  refine ⟨h.1, ?_⟩
  rcases h.2 with h2 | ⟨g, cap, cur, h1, h2, h3, h4⟩
  · exact .inl h2
  · exact .inr ⟨g, cap, cur, h1, h2, (hs g (by rw [h1]; rfl)).trans h3, h4⟩
/-- the slice of the bytes that are unpacked -/
abbrev outV (out : List Int) (o : Option Addr × Nat) : Value := .slice o.1 out.length o.2
/-- the blocks that an unpacker may turn -/
def UF (gu gr : Nat) (out : List Int) (o : Option Addr × Nat) : Nat → Prop := fun i => i = gu ∨ i = gr ∨ (outV out o).ownBlock = some i
/-- block gu is an unpacker of the bytes l at the bit p, with these bytes unpacked -/
structure Un (w : World) (gu gr : Nat) (l : List Int) (limit : Nat) (fl fd : Option Addr) (p : Nat) (out : List Int) (o : Option Addr × Nat) : Prop where
  blk : w.heap[gu]? = some (.cells #[.pointer (some ⟨gr, 0, none⟩), outV out o, .int .i64 (limit : Int), .pointer fl, .pointer fd] 78 (0, 0))
  rdr : Rdr 94 w gr l p
  row : w.ownsRow (gu + 1) 5 1 (outV out o) out.length (out.map (Value.int .u8))
  bytes : Bytes out
  under : gr < gu
  small : out.length ≤ limit
  lim : limit ≤ 32768
/-- what a call has turned -/
structure Stp (gu gr : Nat) (w : World) (out : List Int) (o : Option Addr × Nat) (w' : World) (out' : List Int) (o' : Option Addr × Nat) : Prop where
  foot : Foot (UF gu gr out o) w w'
  loc : ∀ i, (outV out' o').ownBlock = some i → (outV out o).ownBlock = some i ∨ w.heap.size ≤ i
theorem Stp.refl (gu gr : Nat) (w : World) (out : List Int) (o : Option Addr × Nat) : Stp gu gr w out o w out o := ⟨Foot.refl _ _, fun i hi => .inl hi⟩
theorem Stp.trans {gu gr : Nat} {w w1 w2 : World} {out out1 out2 : List Int} {o o1 o2 : Option Addr × Nat} (h : Stp gu gr w out o w1 out1 o1) (k : Stp gu gr w1 out1 o1 w2 out2 o2) : Stp gu gr w out o w2 out2 o2 :=
  ⟨h.foot.trans2 k.foot fun i hi => by
    rcases hi with hi | hi | hi
    · exact .inl (.inl hi)
    · exact .inl (.inr (.inl hi))
    · rcases h.loc i hi with q | q
      · exact .inl (.inr (.inr q))
      · exact .inr q, fun i hi => by
    rcases k.loc i hi with q | q
    · exact h.loc i q
    · exact .inr (Nat.le_trans h.foot.size q)⟩
/-- blocks that are not the unpacker's -/
def Aside (w : World) (gu gr : Nat) (out : List Int) (o : Option Addr × Nat) (F : Nat → Prop) : Prop := ∀ b, F b → b < w.heap.size ∧ ¬ UF gu gr out o b
theorem Aside.step {gu gr : Nat} {w w' : World} {out out' : List Int} {o o' : Option Addr × Nat} {F : Nat → Prop} (h : Aside w gu gr out o F) (s : Stp gu gr w out o w' out' o') : Aside w' gu gr out' o' F := fun b hb => by
  obtain ⟨h1, h2⟩ := h b hb
  refine ⟨Nat.lt_of_lt_of_le h1 s.foot.size, fun hq => ?_⟩
  rcases hq with q | q | q
  · exact h2 (.inl q)
  · exact h2 (.inr (.inl q))
  · rcases s.loc b q with q | q
    · exact h2 (.inr (.inr q))
    · omega
theorem Aside.blk {gu gr : Nat} {w w' : World} {out out' : List Int} {o o' : Option Addr × Nat} {F : Nat → Prop} (h : Aside w gu gr out o F) (s : Stp gu gr w out o w' out' o') : ∀ b, F b → w'.heap[b]? = w.heap[b]? := fun b hb => s.foot.block b (h b hb).1 (h b hb).2
/-- blocks that are new are not the unpacker's -/
theorem aside_new {gu gr : Nat} {w w' : World} {l : List Int} {limit : Nat} {fl fd : Option Addr} {p : Nat} {out : List Int} {o : Option Addr × Nat} (h : Un w gu gr l limit fl fd p out o) (hs : w.heap.size ≤ w'.heap.size) : Aside w' gu gr out o fun b => w.heap.size ≤ b ∧ b < w'.heap.size := fun b hb => by
  refine ⟨hb.2, fun hq => ?_⟩
  have h1 := blk_lt h.blk
  have h2 := h.under
  rcases hq with q | q | q
  · omega
  · omega
  · have := (h.row.lt b q).2; omega
theorem Un.below {w w' : World} {gu gr : Nat} {l : List Int} {limit : Nat} {fl fd : Option Addr} {p : Nat} {out : List Int} {o : Option Addr × Nat} (h : Un w gu gr l limit fl fd p out o) (hb : Below w.heap.size w w') : Un w' gu gr l limit fl fd p out o := by
  have h1 := blk_lt h.blk
  have h2 := h.under
  refine ⟨(hb.block gu h1).trans h.blk, ?_, own_below h.row hb, h.bytes, h.under, h.small, h.lim⟩
  obtain ⟨a, c, q1, q2, q3, q4, q5, q6⟩ := h.rdr
  exact ⟨a, c, (hb.block gr (by omega)).trans q1, q2, q3, q4.keep fun q hq => cell_keep' (hb.block _ (by omega)), q5, q6⟩
theorem stp_below {w w' : World} {gu gr : Nat} {out : List Int} {o : Option Addr × Nat} (hb : Below w.heap.size w w') : Stp gu gr w out o w' out o := ⟨Foot.of_below hb, fun i hi => .inl hi⟩
/-- behind a call of the reader -/
theorem Un.only {w w' : World} {gu gr : Nat} {l : List Int} {limit : Nat} {fl fd : Option Addr} {p p' : Nat} {out : List Int} {o : Option Addr × Nat} (h : Un w gu gr l limit fl fd p out o) (hr : Rdr 94 w' gr l p') (ho : Only gr w w') : Un w' gu gr l limit fl fd p' out o := by
  have h2 := h.under
  refine ⟨(ho.block gu (blk_lt h.blk) (by intro e; injection e with e; omega)).trans h.blk, hr, own_keep' h.row fun i hi => ho.block i (h.row.lt i hi).2 (by intro e; injection e with e; have := (h.row.lt i hi).1; omega), h.bytes, h.under, h.small, h.lim⟩
theorem stp_only {w w' : World} {gu gr : Nat} {out : List Int} {o : Option Addr × Nat} (ho : Only gr w w') : Stp gu gr w out o w' out o :=
  ⟨⟨ho.os, ho.tape, ho.output, ho.size, fun i hi hn => ho.block i hi (by intro e; injection e with e; exact hn (.inr (.inl e)))⟩, fun i hi => .inl hi⟩
end Go.Proofs.YtdcpibglbanchaaDoor
