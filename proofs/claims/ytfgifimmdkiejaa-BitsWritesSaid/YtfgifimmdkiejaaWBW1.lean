/- Both writers of layer 4 side by side: what each call leaves of both. Condition: the numbers fit their kinds, the bits are fewer than 2^40. -/
import Derived.Test.YtfgifimmdkiejaaWBReads
set_option linter.unusedVariables false
namespace Go.Proofs.Ytfgifimmdkiejaa
open Go.RowKit

theorem foot_at {F : Nat → Prop} {b o : Nat} {w w' : World} {v : Value} (hf : Foot F w w') (hn : ¬ F b) (hc : w.cell? ⟨b, o, none⟩ = some v) : w'.cell? ⟨b, o, none⟩ = some v := by
  have hlt : b < w.heap.size := by
    rcases Nat.lt_or_ge b w.heap.size with h1 | h1
    · exact h1
    · have : w.heap[b]? = none := Array.getElem?_eq_none h1
      simp [World.cell?, this] at hc
  exact (World.cell?_of_block (w := w) (hf.block b hlt hn)).trans hc
/-- the two writers' blocks are apart -/
def Dis (gw : Nat) (a : Option Addr) (n c : Nat) (gx : Nat) (a' : Option Addr) (n' c' : Nat) : Prop := ∀ i, WF gw a n c i → ¬ WF gx a' n' c' i
/-- both writers hold the bits L -/
def BSt (w : World) (base gw gx : Nat) (L : List Bool) : Prop :=
  ∃ a c a' c', Wt w base gw a c (pk L) L.length ∧ Wx w base gx a' c' L ∧ Dis gw a (pk L).length c gx a' L.length c' ∧ base ≤ gw ∧ base ≤ gx
theorem wt_lt {w : World} {base g : Nat} {a : Option Addr} {c : Nat} {l : List Int} {k : Nat} (h : Wt w base g a c l k) {i : Nat} (hi : WF g a l.length c i) : i < w.heap.size := by
  rcases hi with rfl | hi
  · exact blk_lt h.1
  · exact (h.2.1.lt i hi).2
theorem wx_lt {w : World} {base g : Nat} {a : Option Addr} {c : Nat} {L : List Bool} (h : Wx w base g a c L) {i : Nat} (hi : WF g a L.length c i) : i < w.heap.size := by
  rcases hi with rfl | hi
  · exact blk_lt h.1
  · exact (h.2.1.lt i hi).2
theorem wt_ge {w : World} {base g : Nat} {a : Option Addr} {c : Nat} {l : List Int} {k : Nat} (h : Wt w base g a c l k) (hg : base ≤ g) {i : Nat} (hi : WF g a l.length c i) : base ≤ i := by
  rcases hi with rfl | hi
  · exact hg
  · exact (h.2.1.lt i hi).1
theorem wx_ge {w : World} {base g : Nat} {a : Option Addr} {c : Nat} {L : List Bool} (h : Wx w base g a c L) (hg : base ≤ g) {i : Nat} (hi : WF g a L.length c i) : base ≤ i := by
  rcases hi with rfl | hi
  · exact hg
  · exact (h.2.1.lt i hi).1
/-- nothing of the two writers has turned -/
theorem BSt.keep {w w' : World} {base gw gx : Nat} {L : List Bool} {F : Nat → Prop} (h : BSt w base gw gx L) (hf : Foot F w w') (hF : ∀ i, F i → w.heap.size ≤ i) : BSt w' base gw gx L := by
  obtain ⟨a, c, a', c', h1, h2, h3, h4, h5⟩ := h
  exact ⟨a, c, a', c', h1.keep (fun i hi => hf.block i (wt_lt h1 hi) (fun q => by have := hF i q; have := wt_lt h1 hi; omega)), h2.keep (fun i hi => hf.block i (wx_lt h2 hi) (fun q => by have := hF i q; have := wx_lt h2 hi; omega)), h3, h4, h5⟩
theorem BSt.below {w w' : World} {base gw gx : Nat} {L : List Bool} (h : BSt w base gw gx L) (hb : Below w.heap.size w w') : BSt w' base gw gx L :=
  h.keep (F := fun _ => False) (Foot.of_below hb) (fun _ h => h.elim)
/-- in between: the program's writer holds L2 already -/
def Mid (w : World) (base gw gx : Nat) (L2 L : List Bool) (a' : Option Addr) (c' : Nat) : Prop :=
  ∃ a c, Wt w base gw a c (pk L2) L2.length ∧ Wx w base gx a' c' L ∧ Dis gw a (pk L2).length c gx a' L.length c'
theorem mid_of {w w2 : World} {base gw gx : Nat} {a a' : Option Addr} {c c' : Nat} {L L2 : List Bool} (h1 : Wt w base gw a c (pk L) L.length) (h2 : Wx w base gx a' c' L) (h3 : Dis gw a (pk L).length c gx a' L.length c')
    {a2 : Option Addr} {c2 : Nat} (k1 : Wt w2 base gw a2 c2 (pk L2) L2.length) (hf : Foot (WF gw a (pk L).length c) w w2) (hr : ∀ i, (Value.slice a2 (pk L2).length c2).ownBlock = some i → (Value.slice a (pk L).length c).ownBlock = some i ∨ w.heap.size ≤ i) : Mid w2 base gw gx L2 L a' c' := by
  refine ⟨a2, c2, k1, h2.keep (fun i hi => hf.block i (wx_lt h2 hi) (fun q => h3 i q hi)), fun i hi hx => ?_⟩
  have hlt := wx_lt h2 hx
  rcases hi with rfl | hi
  · exact h3 _ (.inl rfl) hx
  · rcases hr i hi with q | q
    · exact h3 i (.inr q) hx
    · omega
theorem bst_of {w w2 : World} {base gw gx : Nat} {a' : Option Addr} {c' : Nat} {L L2 : List Bool} (h : Mid w base gw gx L2 L a' c') (hg : base ≤ gw ∧ base ≤ gx) (k : XSt w base gx a' L.length c' L2 w2) : BSt w2 base gw gx L2 := by
  obtain ⟨a, c, h1, h2, h3⟩ := h
  obtain ⟨a3, c3, k1, hf, hr⟩ := k
  refine ⟨a, c, a3, c3, h1.keep (fun i hi => hf.block i (wt_lt h1 hi) (fun q => h3 i hi q)), k1, fun i hi hx => ?_, hg.1, hg.2⟩
  have hlt := wt_lt h1 hi
  rcases hx with rfl | hx
  · exact h3 _ hi (.inl rfl)
  · rcases hr i hx with q | q
    · exact h3 i hi (.inr q)
    · omega
theorem wt_low {w w' : World} {base g : Nat} {a : Option Addr} {c : Nat} {l : List Int} {k : Nat} (h : Wt w base g a c l k) (hg : base ≤ g) (hf : Foot (WF g a l.length c) w w') : Below base w w' :=
  hf.below (fun i hi hF => by have := wt_ge h hg hF; omega) (by have := blk_lt h.1; omega)
theorem wx_low {w w' : World} {base g : Nat} {a : Option Addr} {c : Nat} {L : List Bool} (h : Wx w base g a c L) (hg : base ≤ g) (hf : Foot (WF g a L.length c) w w') : Below base w w' :=
  hf.below (fun i hi hF => by have := wx_ge h hg hF; omega) (by have := blk_lt h.1; omega)
theorem made_eq {w : World} {l : List Int} {e : Ending} {w' : World} (h : Made w l e w') : ∃ a c, e = .returned (.slice a l.length c) ∧ w'.ownsRow w.heap.size 5 1 (.slice a l.length c) l.length (l.map (Value.int .u8)) ∧ Below w.heap.size w w' := h
/-- the bits behind a Put -/
def putE (L : List Bool) (n v : Int) : List Bool := if 0 ≤ n ∧ n ≤ 16 then putL L n.toNat v else L
def erE (n : Int) : Int := if 0 ≤ n ∧ n ≤ 16 then 0 else 1
theorem putE_len (L : List Bool) (n v : Int) : (putE L n v).length ≤ L.length + 16 := by
  unfold putE; split
  · rw [putL_len]; omega
  · omega
theorem wrPutE {w : World} {base g : Nat} {a : Option Addr} {c : Nat} {L : List Bool} (h : Wt w base g a c (pk L) L.length) (hm : L.length ≤ 1099511627776) (hbase : base ≤ w.heap.size)
    (n v : Int) (hv : -9223372036854775808 ≤ v ∧ v ≤ 9223372036854775807) :
    Calls Try.prog 30 #[.pointer (some ⟨g, 0, none⟩), .int .i64 n, .int .i64 v] w fun e w' => e = .returned (.int .i64 (erE n)) ∧ ∃ a' c', Wt w' base g a' c' (pk (putE L n v)) (putE L n v).length ∧ Foot (WF g a (pk L).length c) w w' ∧ (∀ i, (Value.slice a' (pk (putE L n v)).length c').ownBlock = some i → (Value.slice a (pk L).length c).ownBlock = some i ∨ w.heap.size ≤ i) := by
  by_cases hn : 0 ≤ n ∧ n ≤ 16
  · have e1 : putE L n v = putL L n.toNat v := by unfold putE; rw [if_pos hn]
    have e2 : erE n = 0 := by unfold erE; rw [if_pos hn]
    rw [e1, e2]
    have := wrPut h hm hbase n.toNat (by omega) v hv
    rw [show ((n.toNat : Nat) : Int) = n by omega] at this
    exact this
  · have e1 : putE L n v = L := by unfold putE; rw [if_neg hn]
    have e2 : erE n = 1 := by unfold erE; rw [if_neg hn]
    rw [e1, e2]
    exact (wrPutNo (w := w) (g := g) n v (by omega)).mono fun e w' ⟨q1, q2⟩ => by subst q2; exact ⟨q1, a, c, h, Foot.refl _ _, fun i hi => .inl hi⟩
theorem xrPutE {w : World} {base g : Nat} {a : Option Addr} {c : Nat} {L : List Bool} (h : Wx w base g a c L) (hm : L.length ≤ 1099511627776) (hbase : base ≤ w.heap.size)
    (n v : Int) (hv : -9223372036854775808 ≤ v ∧ v ≤ 9223372036854775807) :
    Calls Try.prog 31 #[.pointer (some ⟨g, 0, none⟩), .int .i64 n, .int .i64 v] w fun e w' => e = .returned (.int .i64 (erE n)) ∧ XSt w base g a L.length c (putE L n v) w' := by
  by_cases hn : 0 ≤ n ∧ n ≤ 16
  · have e1 : putE L n v = putL L n.toNat v := by unfold putE; rw [if_pos hn]
    have e2 : erE n = 0 := by unfold erE; rw [if_pos hn]
    rw [e1, e2]
    have := xrPut h hm hbase n.toNat (by omega) v hv
    rw [show ((n.toNat : Nat) : Int) = n by omega] at this
    exact this
  · have e1 : putE L n v = L := by unfold putE; rw [if_neg hn]
    have e2 : erE n = 1 := by unfold erE; rw [if_neg hn]
    rw [e1, e2]
    exact (xrPutNo (w := w) (g := g) n v (by omega)).mono fun e w' ⟨q1, q2⟩ => by subst q2; exact ⟨q1, XSt.start h⟩
/-- the program's writer behind Align, and behind Add -/
theorem wrAlignE {w : World} {base g : Nat} {a : Option Addr} {c : Nat} {L : List Bool} (h : Wt w base g a c (pk L) L.length) (hm : L.length ≤ 1099511627776) :
    Calls Try.prog 32 #[.pointer (some ⟨g, 0, none⟩)] w fun e w' => e = .returned (.tuple #[]) ∧ ∃ a' c', Wt w' base g a' c' (pk (alignL L)) (alignL L).length ∧ Foot (WF g a (pk L).length c) w w' ∧ (∀ i, (Value.slice a' (pk (alignL L)).length c').ownBlock = some i → (Value.slice a (pk L).length c).ownBlock = some i ∨ w.heap.size ≤ i) := by
  have hp := pk_len L
  refine (wrAlign h (by omega)).mono fun e w' ⟨q1, q2, q3⟩ => ⟨q1, a, c, ?_, ?_, ?_⟩
  · rw [pk_align, alignL_len, ← hp]; exact q2
  · exact ⟨q3.os, q3.tape, q3.output, q3.size, fun i hi hn => q3.block i hi (by intro e; injection e with e; exact hn (.inl e))⟩
  · rw [pk_align]; exact fun i hi => .inl hi
theorem wrAddE {w : World} {base g : Nat} {a : Option Addr} {c : Nat} {L : List Bool} (h : Wt w base g a c (pk L) L.length) (hm : L.length ≤ 1099511627776) (hbase : base ≤ w.heap.size)
    (A : Option Addr) (m cm : Nat) (b : List Int) (hb : b.length = m) (hbm : m ≤ 1000) (hbb : Bytes b) (hB : ∀ w', Only g w w' → Bs w' w'.heap.size A b) (hA : A = none → m = 0 ∧ cm = 0) :
    Calls Try.prog 34 #[.pointer (some ⟨g, 0, none⟩), .slice A m cm] w fun e w' => e = .returned (.tuple #[]) ∧ ∃ a' c', Wt w' base g a' c' (pk (addL (alignL L) b)) (addL (alignL L) b).length ∧ Foot (WF g a (pk L).length c) w w' ∧ (∀ i, (Value.slice a' (pk (addL (alignL L) b)).length c').ownBlock = some i → (Value.slice a (pk L).length c).ownBlock = some i ∨ w.heap.size ≤ i) := by
  have hp := pk_len L
  have e1 : pk (addL (alignL L) b) = pk L ++ b := by rw [pk_add b hbb _ (by rw [alignL_len]; omega), pk_align]
  have e2 : (addL (alignL L) b).length = 8 * (pk L ++ b).length := by rw [addL_len, alignL_len, ← hp, List.length_append]; omega
  rw [e1, e2]
  exact wrAdd h (by omega) hbase A m cm b hb (by omega) hB hA
end Go.Proofs.Ytfgifimmdkiejaa
