/- Bits that are put one behind the other, and the bytes that they make: plain mathematics; and what a call that turns a few blocks leaves. No condition. -/
import Derived.Test.YtdcpibglbanchaaDoorGa
set_option linter.unusedVariables false
set_option maxRecDepth 100000
namespace Go.Proofs.YtdcpibglbanchaaDoor
open Go.RowKit

def bitL (L : List Bool) (j : Nat) : Int := if L.getD j false then 1 else 0
theorem bitL_bd (L : List Bool) (j : Nat) : 0 ≤ bitL L j ∧ bitL L j ≤ 1 := by unfold bitL; split <;> decide
theorem bitL_out (L : List Bool) (j : Nat) (h : L.length ≤ j) : bitL L j = 0 := by
  unfold bitL; rw [List.getD_eq_getElem?_getD, List.getElem?_eq_none h]; rfl
def pkB (L : List Bool) (q : Nat) : Int := bsum (fun i => bitL L (8 * q + i)) 8
def pk (L : List Bool) : List Int := (List.range ((L.length + 7) / 8)).map (pkB L)
theorem pk_len (L : List Bool) : (pk L).length = (L.length + 7) / 8 := by simp [pk]
theorem pkB_bd (L : List Bool) (q : Nat) : 0 ≤ pkB L q ∧ pkB L q ≤ 255 := by
  have h := bsum_bound (f := fun i => bitL L (8 * q + i)) (fun i => bitL_bd _ _) 8
  have e : (2 : Int) ^ 8 = 256 := by decide
  unfold pkB; omega
theorem pk_bytes (L : List Bool) : Bytes (pk L) := fun x hx => by
  obtain ⟨q, _, rfl⟩ := List.mem_map.1 hx
  exact pkB_bd L q
theorem pkB_out (L : List Bool) (q : Nat) (h : L.length ≤ 8 * q) : pkB L q = 0 := bsum_zero 8 fun i _ => bitL_out _ _ (by omega)
theorem pk_getD (L : List Bool) (q : Nat) : (pk L).getD q 0 = pkB L q := by
  unfold pk
  by_cases h : q < (L.length + 7) / 8
  · simp [List.getD_eq_getElem?_getD, h]
  · rw [List.getD_eq_getElem?_getD, List.getElem?_eq_none (by simp; omega), pkB_out L q (by omega)]; rfl
theorem bitAt_bsum {f : Nat → Int} (h : ∀ i, 0 ≤ f i ∧ f i ≤ 1) (n i : Nat) (hi : i < n) : bitAt (bsum f n) i = f i := by
  unfold bitAt
  have := bsum_cut h i 1 n (by omega)
  have e : (2 : Int) ^ 1 = 2 := by decide
  rw [e] at this
  rw [this]; simp [bsum]
theorem bt_pk (L : List Bool) (j : Nat) : bt (pk L) j = bitL L j := by
  unfold bt
  rw [pk_getD]
  unfold pkB
  rw [bitAt_bsum (fun i => bitL_bd _ _) 8 _ (by omega)]
  congr 1; omega
theorem tk_pk (L : List Bool) (p n : Nat) : tk (pk L) p n = bsum (fun i => bitL L (p + i)) n := bsum_congr n fun i _ => bt_pk _ _
/-- what stands from a byte on -/
def rest (L : List Bool) (m : Nat) : Int := bsum (fun i => bitL L (8 * m + i)) 24
theorem rest_bd (L : List Bool) (m : Nat) : 0 ≤ rest L m ∧ rest L m < 16777216 := by
  have h := bsum_bound (f := fun i => bitL L (8 * m + i)) (fun i => bitL_bd _ _) 24
  have e : (2 : Int) ^ 24 = 16777216 := by decide
  unfold rest; omega
theorem rest_mod (L : List Bool) (m : Nat) : rest L m % 256 = pkB L m := by
  have e : (2 : Int) ^ 8 = 256 := by decide
  unfold rest pkB
  rw [← e]; exact bsum_mod (fun i => bitL_bd _ _) 8 16
theorem rest_div (L : List Bool) (m : Nat) (h : L.length ≤ 8 * m + 24) : rest L m / 256 = rest L (m + 1) := by
  have e : (2 : Int) ^ 8 = 256 := by decide
  unfold rest
  rw [← e, bsum_div (m := 8) (n := 16) (fun i => bitL_bd _ _), bsum_split (fun i => bitL L (8 * (m + 1) + i)) 16 8]
  rw [bsum_zero 8 (fun i _ => bitL_out L _ (by omega)), Int.mul_zero, Int.add_zero]
  exact bsum_congr 16 fun i _ => by congr 1; omega
/-- bits with a number's lowest ones behind -/
def putL (L : List Bool) (n : Nat) (v : Int) : List Bool := L ++ (List.range n).map fun i => decide (bitAt v i = 1)
theorem putL_len (L : List Bool) (n : Nat) (v : Int) : (putL L n v).length = L.length + n := by simp [putL]
theorem putL_bit (L : List Bool) (n : Nat) (v : Int) (j : Nat) : bitL (putL L n v) j = if j < L.length then bitL L j else if j - L.length < n then bitAt v (j - L.length) else 0 := by
  by_cases h : j < L.length
  · rw [if_pos h]
    unfold bitL putL
    rw [List.getD_eq_getElem?_getD, List.getElem?_append_left h, ← List.getD_eq_getElem?_getD]
  · rw [if_neg h]
    unfold bitL putL
    rw [List.getD_eq_getElem?_getD, List.getElem?_append_right (by omega)]
    by_cases h2 : j - L.length < n
    · rw [if_pos h2]
      have hb := bitAt_bd v (j - L.length)
      simp only [List.getElem?_map, List.getElem?_range h2, Option.map_some, Option.getD_some, decide_eq_true_eq]
      split <;> omega
    · rw [if_neg h2, List.getElem?_eq_none (by simp; omega)]; rfl
theorem putL_rest (L : List Bool) (n : Nat) (v : Int) (m s : Nat) (hL : L.length = 8 * m + s) (hs : s ≤ 7) (hn : n ≤ 16) : rest (putL L n v) m = bsum (fun i => bitL L (8 * m + i)) s + (v % 2 ^ n) * 2 ^ s := by
  have e : 24 = s + (n + (24 - s - n)) := by omega
  unfold rest
  rw [e, bsum_split, Int.mul_comm (2 ^ s)]
  congr 1
  · exact bsum_congr s fun i hi => by rw [putL_bit, if_pos (by omega)]
  · congr 1
    have hz : bsum (fun i => bitL (putL L n v) (8 * m + (s + (n + i)))) (24 - s - n) = 0 := bsum_zero _ (fun i _ => by rw [putL_bit, if_neg (by omega), if_neg (by omega)])
    rw [bsum_split, hz, Int.mul_zero, Int.add_zero, mod_bsum]
    exact bsum_congr n fun i hi => by rw [putL_bit, if_neg (by omega), if_pos (by omega)]; congr 1; omega
theorem pkB_last (L : List Bool) (m s : Nat) (hL : L.length = 8 * m + s) (hs : s ≤ 7) : pkB L m = bsum (fun i => bitL L (8 * m + i)) s := by
  have h := bsum_split (fun i => bitL L (8 * m + i)) s (8 - s)
  have hz : bsum (fun i => bitL L (8 * m + (s + i))) (8 - s) = 0 := bsum_zero _ (fun i _ => bitL_out L _ (by omega))
  rw [hz, Int.mul_zero, Int.add_zero, show s + (8 - s) = 8 by omega] at h
  exact h
theorem putL_same (L : List Bool) (n : Nat) (v : Int) (q : Nat) (h : 8 * q + 8 ≤ L.length) : pkB (putL L n v) q = pkB L q := bsum_congr 8 fun i hi => by rw [putL_bit, if_pos (by omega)]
theorem pk_take (L L' : List Bool) (m : Nat) (h1 : m ≤ (L.length + 7) / 8) (h2 : m ≤ (L'.length + 7) / 8) (h : ∀ q, q < m → pkB L q = pkB L' q) : (pk L).take m = (pk L').take m := by
  unfold pk
  rw [← List.map_take, ← List.map_take, List.take_range, List.take_range, Nat.min_eq_left h1, Nat.min_eq_left h2]
  exact List.map_congr_left fun q hq => h q (List.mem_range.1 hq)
theorem pk_all (L : List Bool) (m : Nat) (h : (L.length + 7) / 8 ≤ m) : (pk L).take m = pk L := List.take_of_length_le (by rw [pk_len]; exact h)
theorem pk_succ (L : List Bool) (m : Nat) (h : 8 * m < L.length) : (pk L).take (m + 1) = (pk L).take m ++ [rest L m % 256] := by
  rw [take_succ' _ m (by rw [pk_len]; omega), pk_getD, rest_mod]
/-- noughts up to a byte's end -/
def alignL (L : List Bool) : List Bool := L ++ List.replicate ((8 - L.length % 8) % 8) false
theorem alignL_len (L : List Bool) : (alignL L).length = 8 * ((L.length + 7) / 8) := by simp [alignL]; omega
theorem bitL_rep (L : List Bool) (k j : Nat) : bitL (L ++ List.replicate k false) j = bitL L j := by
  unfold bitL
  by_cases h : j < L.length
  · rw [List.getD_eq_getElem?_getD, List.getElem?_append_left h, ← List.getD_eq_getElem?_getD]
  · have h1 : L.getD j false = false := by rw [List.getD_eq_getElem?_getD, List.getElem?_eq_none (by omega)]; rfl
    rw [h1, List.getD_eq_getElem?_getD, List.getElem?_append_right (by omega), List.getElem?_replicate]
    split <;> rfl
theorem pk_align (L : List Bool) : pk (alignL L) = pk L := by
  unfold pk
  rw [show ((alignL L).length + 7) / 8 = (L.length + 7) / 8 by rw [alignL_len]; omega]
  exact List.map_congr_left fun q _ => bsum_congr 8 fun i _ => bitL_rep L _ _
/-- bytes behind bits that end with a byte -/
theorem pk_byte (L : List Bool) (x : Int) (hx : 0 ≤ x ∧ x ≤ 255) (h8 : L.length % 8 = 0) : pk (putL L 8 x) = pk L ++ [x] := by
  obtain ⟨m, hm⟩ : ∃ m, L.length = 8 * m := ⟨L.length / 8, by omega⟩
  have hl := putL_len L 8 x
  have h1 : pk (putL L 8 x) = (pk (putL L 8 x)).take (m + 1) := (pk_all _ _ (by omega)).symm
  have h2 := pk_take L (putL L 8 x) m (by omega) (by omega) (fun q hq => (putL_same L 8 x q (by omega)).symm)
  have h3 := putL_rest L 8 x m 0 (by omega) (by omega) (by omega)
  have e : (2 : Int) ^ 8 = 256 := by decide
  have h4 : rest (putL L 8 x) m % 256 = x := by
    rw [h3, e]; simp [bsum]; omega
  rw [h1, pk_succ _ _ (by omega), ← h2, pk_all L m (by omega), h4]
/-- bytes put behind -/
def addL (L : List Bool) (b : List Int) : List Bool := b.foldl (fun L x => putL L 8 x) L
theorem addL_snoc (L : List Bool) (b : List Int) (x : Int) : addL L (b ++ [x]) = putL (addL L b) 8 x := by simp [addL, List.foldl_append]
theorem addL_len (b : List Int) : ∀ L, (addL L b).length = L.length + 8 * b.length := by
  induction b with
  | nil => intro L; simp [addL]
  | cons x b ih => intro L; show (addL (putL L 8 x) b).length = _; rw [ih, putL_len, List.length_cons]; omega
theorem pk_add (b : List Int) (hb : Bytes b) : ∀ L : List Bool, L.length % 8 = 0 → pk (addL L b) = pk L ++ b := by
  induction b with
  | nil => intro L _; simp [addL]
  | cons x b ih =>
    intro L h8
    show pk (addL (putL L 8 x) b) = _
    rw [ih (fun y hy => hb y (by simp [hy])) _ (by rw [putL_len]; omega), pk_byte L x (hb x (by simp)) h8, List.append_assoc]; rfl
/-- bits that don't fit the byte that was begun -/
theorem div_apart (x V : Int) (s : Nat) (hs : s ≤ 7) (hx : 0 ≤ x ∧ x < 2 ^ s) : (x + V * 2 ^ s) / 256 = V * 2 ^ s / 256 := by
  have e : (256 : Int) = 2 ^ s * 2 ^ (8 - s) := by rw [← Int.pow_add, show s + (8 - s) = 8 by omega]; rfl
  have hp := pow_pos2 s
  rw [e, ← Int.ediv_ediv_of_nonneg (by omega), ← Int.ediv_ediv_of_nonneg (by omega), Int.add_mul_ediv_right _ _ (by omega), Int.ediv_eq_zero_of_lt hx.1 hx.2, Int.zero_add, Int.mul_ediv_cancel _ (by omega)]

/-- nothing but the blocks F, and what is new, has turned -/
structure Foot (F : Nat → Prop) (w w' : World) : Prop where
  os : w'.os = w.os
  tape : w'.tape = w.tape
  output : w'.output = w.output
  size : w.heap.size ≤ w'.heap.size
  block : ∀ i, i < w.heap.size → ¬ F i → w'.heap[i]? = w.heap[i]?
section
variable {F : Nat → Prop} {a b c : World}
theorem Foot.refl (F : Nat → Prop) (w : World) : Foot F w w := ⟨rfl, rfl, rfl, Nat.le_refl _, fun _ _ _ => rfl⟩
theorem Foot.trans (h : Foot F a b) (k : Foot F b c) : Foot F a c :=
  ⟨k.os.trans h.os, k.tape.trans h.tape, k.output.trans h.output, Nat.le_trans h.size k.size, fun i hi hn => (k.block i (Nat.lt_of_lt_of_le hi h.size) hn).trans (h.block i hi hn)⟩
theorem Foot.trans2 {G : Nat → Prop} (h : Foot F a b) (k : Foot G b c) (hG : ∀ i, G i → F i ∨ a.heap.size ≤ i) : Foot F a c :=
  ⟨k.os.trans h.os, k.tape.trans h.tape, k.output.trans h.output, Nat.le_trans h.size k.size, fun i hi hn => (k.block i (Nat.lt_of_lt_of_le hi h.size) (fun hg => by rcases hG i hg with q | q; exact hn q; omega)).trans (h.block i hi hn)⟩
theorem Foot.more {G : Nat → Prop} (h : Foot F a b) (hG : ∀ i, i < a.heap.size → F i → G i) : Foot G a b := ⟨h.os, h.tape, h.output, h.size, fun i hi hn => h.block i hi fun hf => hn (hG i hi hf)⟩
theorem Foot.drewN (h : Foot F a b) (n : Nat) : Foot F a (b.drewN n) := ⟨h.os, h.tape, h.output, h.size, h.block⟩
theorem Foot.set (h : Foot F a b) {g o : Nat} {u : Value} (hg : F g ∨ a.heap.size ≤ g) : Foot F a (b.setCell ⟨g, o, none⟩ u) :=
  ⟨h.os, h.tape, h.output, by simpa [World.setCell] using h.size, fun i hi hn => (Below.heap_setCell b ⟨g, o, none⟩ u i (by intro e; have e : i = g := e; subst e; rcases hg with hg | hg; exact hn hg; omega)).trans (h.block i hi hn)⟩
theorem Foot.alloc (h : Foot F a b) (o : Obj) : Foot F a (b.alloc o) :=
  ⟨h.os, h.tape, h.output, by have := h.size; simp; omega, fun i hi hn => (Below.heap_alloc b o i (Nat.lt_of_lt_of_le hi h.size)).trans (h.block i hi hn)⟩
theorem Foot.grown (h : Foot F a b) {row : Option Nat} (hg : b.grownBy c row) (hr : ∀ k, row = some k → F k ∨ a.heap.size ≤ k) : Foot F a c :=
  ⟨hg.os.trans h.os, hg.tape.trans h.tape, hg.output.trans h.output, Nat.le_trans h.size hg.size, fun i hi hn => (hg.block i (Nat.lt_of_lt_of_le hi h.size) (fun e => by rcases hr i e.symm with q | q; exact hn q; omega)).trans (h.block i hi hn)⟩
theorem Foot.of_below (h : Below a.heap.size a b) : Foot F a b := ⟨h.os, h.tape, h.output, h.size, fun i hi _ => h.block i hi⟩
theorem Foot.below {B : Nat} (h : Foot F a b) (hB : ∀ i, i < B → ¬ F i) (hs : B ≤ a.heap.size) : Below B a b := ⟨h.os, h.tape, h.output, h.size, fun i hi => h.block i (by omega) (hB i hi)⟩
end
end Go.Proofs.YtdcpibglbanchaaDoor
