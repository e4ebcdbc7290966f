/- Words put one behind the other, the highest bit of each first, as bits; that they are read again; what is kept while they are put. Condition: the symbols have words. -/
import Derived.Test.YtokechaflhgmiaaWPReads
import Derived.Test.YtokechaflhgmiaaWrt
set_option linter.unusedVariables false
namespace Go.Proofs.Ytokechaflhgmiaa
open Go.RowKit

/-- the first m bits of a word of n bits, the highest first -/
def wbits (v n m : Nat) : List Bool := (List.range m).map fun j => decide (bitAt (v : Int) (n - 1 - j) = 1)
theorem wbits_len (v n m : Nat) : (wbits v n m).length = m := by simp [wbits]
theorem bitAt_shift (v : Int) (k : Nat) : bitAt (v / 2 ^ k) 0 = bitAt v k := by simp [bitAt]
theorem put_word (L : List Bool) (v n m : Nat) : putL (L ++ wbits v n m) 1 ((v : Int) / 2 ^ (n - 1 - m)) = L ++ wbits v n (m + 1) := by
  unfold putL wbits
  rw [List.range_succ, List.map_append, ← List.append_assoc]
  simp [List.range_succ, bitAt_shift]
theorem wbits_bit (v n : Nat) {j : Nat} (hj : j < n) : bitL (wbits v n n) j = bitAt (v : Int) (n - 1 - j) := by
  unfold bitL wbits
  have h := bitAt_bd (v : Int) (n - 1 - j)
  simp only [List.getD_eq_getElem?_getD, List.getElem?_map, List.getElem?_range hj, Option.map_some, Option.getD_some, decide_eq_true_eq]
  by_cases e : bitAt (v : Int) (n - 1 - j) = 1
  · rw [if_pos e, e]
  · rw [if_neg e]; omega
theorem bitL_mid (A W C : List Bool) {j : Nat} (hj : j < W.length) : bitL (A ++ W ++ C) (A.length + j) = bitL W j := by
  unfold bitL
  rw [List.getD_eq_getElem?_getD, List.getD_eq_getElem?_getD, List.append_assoc, List.getElem?_append_right (by omega), Nat.add_sub_cancel_left, List.getElem?_append_left hj]
theorem wd_bits (A C : List Bool) (v n : Nat) : ∀ m, m ≤ n → wd (pk (A ++ wbits v n n ++ C)) A.length m = v % 2 ^ n / 2 ^ (n - m)
  | 0, _ => by rw [wd, Nat.sub_zero]; exact (Nat.div_eq_of_lt (Nat.mod_lt _ (Nat.two_pow_pos n))).symm
  | m + 1, h => by
    have ih := wd_bits A C v n m (by omega)
    have hb := bitL_mid A (wbits v n n) C (j := m) (by rw [wbits_len]; omega)
    rw [wbits_bit v n (by omega)] at hb
    rw [wd, ih, bt_pk, hb]
    have e1 : n - m = (n - (m + 1)) + 1 := by omega
    have e2 : n - 1 - m = n - (m + 1) := by omega
    have e3 : (bitAt (v : Int) (n - (m + 1))).toNat = v / 2 ^ (n - (m + 1)) % 2 := by
      unfold bitAt
      rw [pow_cast, ← Int.natCast_ediv]
      omega
    have e4 : v / 2 ^ (n - (m + 1)) % 2 = v % 2 ^ n / 2 ^ (n - (m + 1)) % 2 := by
      have e5 : n = (n - (m + 1)) + (m + 1) := by omega
      have e6 : 2 ^ n = 2 ^ (n - (m + 1)) * 2 ^ (m + 1) := by rw [← Nat.pow_add, ← e5]
      rw [e6, Nat.mod_mul_right_div_self, Nat.pow_succ, Nat.mul_comm (2 ^ m) 2, Nat.mod_mul_right_mod]
    rw [e2, e3, e4, e1, Nat.pow_succ, ← Nat.div_div_eq_div_mul]
    omega
/-- the words of some symbols, one behind the other -/
def codeB (ns : List Nat) (ss : List Nat) : List Bool := ss.flatMap fun s => wbits (pword ns s) (ns.getD s 0) (ns.getD s 0)
theorem codeB_snoc (ns ss : List Nat) (s : Nat) : codeB ns (ss ++ [s]) = codeB ns ss ++ wbits (pword ns s) (ns.getD s 0) (ns.getD s 0) := by simp [codeB]
theorem codeB_len {ns : List Nat} (hall : ∀ n ∈ ns, n ≤ 15) : ∀ ss : List Nat, (codeB ns ss).length ≤ 15 * ss.length
  | [] => by simp [codeB]
  | s :: ss => by
    have ih := codeB_len hall ss
    have h : ns.getD s 0 ≤ 15 := by
      by_cases hs : s < ns.length
      · rw [List.getD_eq_getElem?_getD, List.getElem?_eq_getElem hs]; exact hall _ (List.getElem_mem hs)
      · rw [List.getD_eq_getElem?_getD, List.getElem?_eq_none (by omega)]; decide
    have e : (codeB ns (s :: ss)).length = ns.getD s 0 + (codeB ns ss).length := by simp only [codeB, List.flatMap_cons, List.length_append, wbits_len]
    rw [e, List.length_cons]; omega
theorem next_code {ns ss : List Nat} (hall : ∀ n ∈ ns, n ≤ 15) (hk : kraft ns ≤ 2 ^ 15) (hs : ∀ s ∈ ss, s < ns.length ∧ 1 ≤ ns.getD s 0) {i : Nat} (hi : i < ss.length) :
    nxt ns (pk (codeB ns ss)) (codeB ns (ss.take i)).length = (((ss.getD i 0 : Nat) : Int), 0, (codeB ns (ss.take (i + 1))).length) := by
  have hg : ss.getD i 0 = ss[i] := by rw [List.getD_eq_getElem?_getD, List.getElem?_eq_getElem hi]; rfl
  rw [hg]
  obtain ⟨h1, h2⟩ := hs ss[i] (List.getElem_mem hi)
  have et : ss.take (i + 1) = ss.take i ++ [ss[i]] := List.take_succ_eq_append_getElem hi
  have e : codeB ns ss = codeB ns (ss.take i) ++ wbits (pword ns ss[i]) (ns.getD ss[i] 0) (ns.getD ss[i] 0) ++ codeB ns (ss.drop (i + 1)) := by
    rw [← codeB_snoc, ← et]
    unfold codeB
    rw [← List.flatMap_append, List.take_append_drop]
  have hb := pword_bound hall hk h1 h2
  have hw : wd (pk (codeB ns ss)) (codeB ns (ss.take i)).length (ns.getD ss[i] 0) = pword ns ss[i] := by
    rw [e, wd_bits _ _ _ _ _ (Nat.le_refl _), Nat.sub_self, Nat.pow_zero, Nat.div_one, Nat.mod_eq_of_lt hb]
  have hlen : (codeB ns (ss.take (i + 1))).length = (codeB ns (ss.take i)).length + ns.getD ss[i] 0 := by rw [et, codeB_snoc, List.length_append, wbits_len]
  have hle : (codeB ns (ss.take (i + 1))).length ≤ (codeB ns ss).length := by
    rw [hlen, e, List.length_append, List.length_append, wbits_len]; omega
  rw [hlen]
  exact nxt_word hall h1 h2 hw (by rw [pk_len]; omega)
/-- what is kept while words are put -/
def BackSt (w wr : World) (g : Nat) (ns : List Nat) (B gw : Nat) (ss : List Nat) (L : List Bool) (a : Option Addr) (c : Nat) (pa : Option Addr) (pc : Nat) : Prop :=
  Wt wr B gw a c (pk L) L.length ∧ wr.ownsRow B 3 1 (.slice pa ss.length pc) ss.length (ss.map fun (i : Nat) => Value.int .i64 (i : Int)) ∧ (∀ i, (Value.slice pa ss.length pc).ownBlock = some i → ¬ WF gw a (pk L).length c i) ∧
    PC wr (fun b => b < B) g ns ∧ (∀ s ∈ ss, s < ns.length ∧ 1 ≤ ns.getD s 0) ∧ Below w.heap.size w wr ∧ w.heap.size ≤ B ∧ B ≤ gw
theorem BackSt.below {w wr w' : World} {g : Nat} {ns : List Nat} {B gw : Nat} {ss : List Nat} {L : List Bool} {a : Option Addr} {c : Nat} {pa : Option Addr} {pc : Nat} (h : BackSt w wr g ns B gw ss L a c pa pc) (hb : Below wr.heap.size wr w') : BackSt w w' g ns B gw ss L a c pa pc := by
  obtain ⟨h1, h2, h3, h4, h5, h6, h7, h8⟩ := h
  have := blk_lt h1.1
  exact ⟨h1.below hb, own_below h2 hb, h3, h4.keep fun b hb' => hb.block b (by omega), h5, below_next h6 (Nat.le_refl _) hb, h7, h8⟩
theorem BackSt.put {w wr w' : World} {g : Nat} {ns : List Nat} {B gw : Nat} {ss : List Nat} {L L' : List Bool} {a : Option Addr} {c : Nat} {pa : Option Addr} {pc : Nat} (h : BackSt w wr g ns B gw ss L a c pa pc) {a' : Option Addr} {c' : Nat} (hw : Wt w' B gw a' c' (pk L') L'.length) (hf : Foot (WF gw a (pk L).length c) wr w')
    (hl : ∀ i, (Value.slice a' (pk L').length c').ownBlock = some i → (Value.slice a (pk L).length c).ownBlock = some i ∨ wr.heap.size ≤ i) : BackSt w w' g ns B gw ss L' a' c' pa pc := by
  obtain ⟨h1, h2, h3, h4, h5, h6, h7, h8⟩ := h
  have hg := blk_lt h1.1
  have hWF : ∀ b, b < B → ¬ WF gw a (pk L).length c b := fun b hb hq => by
    rcases hq with rfl | hq
    · omega
    · have := (h1.2.1.lt b hq).1; omega
  refine ⟨hw, own_keep h2 fun i hi => hf.block i (h2.lt i hi).2 (h3 i hi), fun i hi hq => ?_, h4.keep fun b hb => hf.block b (by omega) (hWF b hb), h5, h6.trans (hf.below (fun i hi => hWF i (by omega)) h6.size), h7, h8⟩
  rcases hq with rfl | hq
  · exact h3 _ hi (.inl rfl)
  · rcases hl i hq with q | q
    · exact h3 i hi (.inr q)
    · have := (h2.lt i hi).2; omega
theorem BackSt.app {w wr w1 w' : World} {g : Nat} {ns : List Nat} {B gw : Nat} {ss : List Nat} {L : List Bool} {a : Option Addr} {c : Nat} {pa pa' : Option Addr} {pc pc' s : Nat} (h : BackSt w wr g ns B gw ss L a c pa pc) (hs : s < ns.length ∧ 1 ≤ ns.getD s 0) (hb : Below wr.heap.size wr w1)
    (hg : w1.grownBy w' (Value.slice pa ss.length pc).ownBlock) (ho : w'.ownsRow B 3 1 (.slice pa' (ss.length + 1) pc') (ss.length + 1) ((ss.map fun (i : Nat) => Value.int .i64 (i : Int)) ++ [Value.int .i64 (s : Int)]))
    (hl : (Value.slice pa' (ss.length + 1) pc').ownBlock = (Value.slice pa ss.length pc).ownBlock ∨ (Value.slice pa' (ss.length + 1) pc').ownBlock = some w1.heap.size) : BackSt w w' g ns B gw (ss ++ [s]) L a c pa' pc' := by
  obtain ⟨h1, h2, h3, h4, h5, h6, h7, h8⟩ := h.below hb
  have hgl := blk_lt h1.1
  have hbl : ∀ i, i < w1.heap.size → (Value.slice pa ss.length pc).ownBlock ≠ some i → w'.heap[i]? = w1.heap[i]? := fun i hi hn => hg.block i hi (fun e => hn e.symm)
  have hlen : (ss ++ [s]).length = ss.length + 1 := by simp
  refine ⟨h1.keep fun i hi => hbl i ?_ (fun e => h3 i e hi), ?_, fun i hi hq => ?_, h4.keep fun b hb' => hbl b (by omega) fun e => by have := (h2.lt b e).1; omega, fun t ht => ?_, ⟨hg.os.trans h6.os, hg.tape.trans h6.tape, hg.output.trans h6.output, Nat.le_trans h6.size hg.size, fun i hi => (hbl i (Nat.lt_of_lt_of_le hi h6.size) fun e => by have := (h2.lt i e).1; omega).trans (h6.block i hi)⟩, h7, h8⟩
  · rcases hi with rfl | hi
    · exact hgl
    · exact (h1.2.1.lt i hi).2
  · rw [hlen, List.map_append]; exact ho
  · rw [hlen] at hi
    rcases hl with q | q
    · rw [q] at hi; exact h3 i hi hq
    · rw [q] at hi
      injection hi with hi
      subst hi
      rcases hq with e | e
      · omega
      · have := (h1.2.1.lt _ e).2; omega
  · rcases List.mem_append.1 ht with q | q
    · exact h5 t q
    · have : t = s := by simpa using q
      subst this; exact hs
end Go.Proofs.Ytokechaflhgmiaa
