/- What the document's own prefix codes do: contracts of longest, Word, Next, New of samovarref05. Condition: the lengths fit their kinds. What the document's own prefix codes do: contract of New of samovarref05. Condition: the lengths fit their kinds. What the document's own lengths and distances are: contracts of Length and Distance of samovarref06. No condition. -/
import Derived.Test.YtdcpibglbanchaaDoorRd
import Derived.Test.YtdcpibglbanchaaDoorFr
import Derived.Test.YtdcpibglbanchaaDoorPp
import Derived.Deep.MidRow
import Derived.Laws.ResultCell
import Derived.Deep.DeepCutAuto
set_option linter.unusedVariables false
set_option maxRecDepth 100000
namespace Go.Proofs.YtdcpibglbanchaaDoor
open Go.RowKit

theorem cell_keep {w w' : World} {b : Nat} (h : w'.heap[b]? = w.heap[b]?) (o : Nat) : w'.cell? ⟨b, o, none⟩ = w.cell? ⟨b, o, none⟩ := by unfold World.cell?; rw [h]
theorem cell_keep' {w w' : World} {p : Addr} (h : w'.heap[p.block]? = w.heap[p.block]?) : w'.cell? p = w.cell? p := by unfold World.cell?; rw [h]
/-- the row that begins at a holds the symbols q, in a block of F -/
def Row (w : World) (F : Nat → Prop) (a : Option Addr) (q : List Nat) : Prop :=
  0 < q.length → ∃ b off, a = some ⟨b, off, none⟩ ∧ F b ∧ ∀ (i t : Nat), q[i]? = some t → w.cell? ⟨b, off + i, none⟩ = some (.int .i64 (t : Int))
theorem Row.keep {w w' : World} {F : Nat → Prop} {a : Option Addr} {q : List Nat} (h : Row w F a q) (hs : ∀ b, F b → w'.heap[b]? = w.heap[b]?) : Row w' F a q := fun hn => by
  obtain ⟨b, off, e, hb, hc⟩ := h hn
  exact ⟨b, off, e, hb, fun i t ht => (cell_keep (hs b hb) _).trans (hc i t ht)⟩
theorem Row.more {w : World} {F F' : Nat → Prop} {a : Option Addr} {q : List Nat} (h : Row w F a q) (hs : ∀ b, F b → F' b) : Row w F' a q := fun hn => by
  obtain ⟨b, off, e, hb, hc⟩ := h hn
  exact ⟨b, off, e, hs b hb, hc⟩
/-- cells that are the code of the lengths ns; its rows of symbols lie in F -/
def Cd (w : World) (F : Nat → Prop) (ns : List Nat) (cs : Array Value) : Prop :=
  cs.size = 32 ∧ ∀ n, 1 ≤ n → n ≤ 15 → cs[n]? = some (.int .i64 (pfirst ns n)) ∧ ∃ a c, cs[16 + n]? = some (.slice a (pcnt ns n) c) ∧ Row w F a (pidx ns n)
theorem Cd.keep {w w' : World} {F : Nat → Prop} {ns : List Nat} {cs : Array Value} (h : Cd w F ns cs) (hs : ∀ b, F b → w'.heap[b]? = w.heap[b]?) : Cd w' F ns cs :=
  ⟨h.1, fun n h0 h1 => by
    obtain ⟨h2, a, c, h3, h4⟩ := h.2 n h0 h1
    exact ⟨h2, a, c, h3, h4.keep hs⟩⟩
theorem Cd.more {w : World} {F F' : Nat → Prop} {ns : List Nat} {cs : Array Value} (h : Cd w F ns cs) (hs : ∀ b, F b → F' b) : Cd w F' ns cs :=
  ⟨h.1, fun n h0 h1 => by
    obtain ⟨h2, a, c, h3, h4⟩ := h.2 n h0 h1
    exact ⟨h2, a, c, h3, h4.more hs⟩⟩
theorem ret1' {a b : Int} {k : IntKind} (h : a = b) : Ending.returned (.int k a) = .returned (.int k b) := by rw [h]
/-- a symbol's word and how many bits it has; 0 and 0 of a symbol that has none -/
def wordOf (ns : List Nat) (s : Int) : Int × Int := if 0 ≤ s ∧ s < ns.length ∧ ns.getD s.toNat 0 ≠ 0 then ((pword ns s.toNat : Int), (ns.getD s.toNat 0 : Int)) else (0, 0)
theorem wordOf_found {ns : List Nat} {n i t : Nat} (hn : 1 ≤ n) (h : (pidx ns n)[i]? = some t) : wordOf ns t = ((pfirst ns n : Int) + i, (n : Int)) := by
  obtain ⟨h1, h2, h3⟩ := pidx_mem ns h
  unfold wordOf
  have e : ((t : Int)).toNat = t := by omega
  rw [e, if_pos ⟨by omega, by omega, by omega⟩, h2]
  unfold pword
  rw [h2, h3, Int.natCast_add]
theorem wordOf_none {ns : List Nat} (hall : ∀ n ∈ ns, n ≤ 15) {s : Int} (h : ∀ m, 1 ≤ m → m < 16 → ∀ t ∈ pidx ns m, (t : Int) ≠ s) : wordOf ns s = (0, 0) := by
  unfold wordOf
  rw [if_neg]
  rintro ⟨h1, h2, h3⟩
  obtain ⟨t, rfl⟩ := Int.eq_ofNat_of_zero_le h1
  have e : ((t : Int)).toNat = t := by omega
  rw [e] at h3
  have hlt : t < ns.length := by omega
  have hm : ns.getD t 0 ≤ 15 := by
    rw [List.getD_eq_getElem?_getD, List.getElem?_eq_getElem hlt]; exact hall _ (List.getElem_mem hlt)
  exact h _ (by omega) (by omega) t (List.mem_of_getElem? (pidx_rank ns hlt)) rfl
theorem ret2' {a b c d : Int} {k k' : IntKind} (h1 : a = c) (h2 : b = d) : Ending.returned (.tuple #[.int k a, .int k' b]) = .returned (.tuple #[.int k c, .int k' d]) := by rw [h1, h2]
theorem pidx_get (ns : List Nat) (n i : Nat) (h : i < pcnt ns n) : ∃ t, (pidx ns n)[i]? = some t ∧ t < ns.length := by
  have hl : i < (pidx ns n).length := by rw [pidx_len]; exact h
  exact ⟨(pidx ns n)[i], List.getElem?_eq_getElem hl, (pidx_mem ns (List.getElem?_eq_getElem hl)).1⟩
theorem only_alloc {g : Nat} {a w : World} (h : Only g a w) (o : Obj) : Only g a (w.alloc o) := ⟨h.os, h.tape, h.output, Nat.le_trans h.size (by simp), fun i hi hne => (Below.heap_alloc _ _ _ (Nat.lt_of_lt_of_le hi h.size)).trans (h.block i hi hne)⟩
theorem only_of_below {g : Nat} {a w w' : World} (h : Only g a w) (hb : Below w.heap.size w w') : Only g a w' := ⟨hb.os.trans h.os, hb.tape.trans h.tape, hb.output.trans h.output, Nat.le_trans h.size hb.size, fun i hi hne => (hb.block i (Nat.lt_of_lt_of_le hi h.size)).trans (h.block i hi hne)⟩
end Go.Proofs.YtdcpibglbanchaaDoor

set_option linter.unusedVariables false
set_option maxRecDepth 100000
namespace Go.Proofs.YtdcpibglbanchaaDoor
open Go.RowKit

def nsOf (q : List Int) : List Nat := q.map Int.toNat
def allN (ns : List Nat) : Nat := (ns.filter fun n => n != 0).length
def inR (q : List Int) : Bool := q.all fun x => decide (0 ≤ x ∧ x ≤ 15)
def okN (ns : List Nat) (lone : Bool) : Bool := decide (kraft ns = 32768) || lone && (decide (allN ns = 0) || decide (allN ns = 1) && decide (ns.count 1 = 1))
def errN (q : List Int) (lone : Bool) : Int := if 288 < q.length then 1 else if inR q then (if okN (nsOf q) lone then 0 else 5) else 1
/-- all values are of one cell -/
def AllOne (cs : Array Value) : Prop := cs.all (·.oneCell') = true
def zeroCode : Array Value := #[.int .i64 0, .int .i64 0, .int .i64 0, .int .i64 0, .int .i64 0, .int .i64 0, .int .i64 0, .int .i64 0, .int .i64 0, .int .i64 0, .int .i64 0, .int .i64 0, .int .i64 0, .int .i64 0, .int .i64 0, .int .i64 0, .slice none 0 0, .slice none 0 0, .slice none 0 0, .slice none 0 0, .slice none 0 0, .slice none 0 0, .slice none 0 0, .slice none 0 0, .slice none 0 0, .slice none 0 0, .slice none 0 0, .slice none 0 0, .slice none 0 0, .slice none 0 0, .slice none 0 0, .slice none 0 0]
theorem take_facts (q : List Int) {k : Nat} (hk : k < q.length) : kraft (nsOf (q.take (k + 1))) = kraft (nsOf (q.take k)) + (if (q.getD k 0).toNat = 0 then 0 else 2 ^ (15 - (q.getD k 0).toNat)) ∧ (nsOf (q.take (k + 1))).count 1 = (nsOf (q.take k)).count 1 + (if (q.getD k 0).toNat = 1 then 1 else 0) ∧ allN (nsOf (q.take (k + 1))) = allN (nsOf (q.take k)) + (if (q.getD k 0).toNat = 0 then 0 else 1) ∧ inR (q.take (k + 1)) = (inR (q.take k) && decide (0 ≤ q.getD k 0 ∧ q.getD k 0 ≤ 15)) := by
  have e : q.take (k + 1) = q.take k ++ [q.getD k 0] := by rw [List.take_succ_eq_append_getElem hk, List.getD_eq_getElem?_getD, List.getElem?_eq_getElem hk]; rfl
  rw [e]
  generalize q.getD k 0 = x
  generalize q.take k = l
  refine ⟨?_, ?_, ?_, ?_⟩
  · simp [kraft, nsOf]
  · simp only [nsOf, List.map_append, List.map_cons, List.map_nil, List.count_append, List.count_cons, List.count_nil]
    by_cases h : x.toNat = 1 <;> simp [h]
  · unfold allN nsOf
    rw [List.map_append, List.filter_append, List.length_append]
    congr 1
    by_cases h : x.toNat = 0 <;> simp [h]
  · simp [inR]
theorem bounds (q : List Int) {k : Nat} (hk : k ≤ q.length) (h : q.length ≤ 288) : kraft (nsOf (q.take k)) ≤ 9437184 ∧ (nsOf (q.take k)).count 1 ≤ 288 ∧ allN (nsOf (q.take k)) ≤ 288 := by
  have hl : (nsOf (q.take k)).length ≤ 288 := by simp [nsOf]; omega
  generalize nsOf (q.take k) = ns at *
  refine ⟨?_, Nat.le_trans List.count_le_length hl, Nat.le_trans (List.length_filter_le _ _) hl⟩
  have hk : ∀ ns : List Nat, kraft ns ≤ 32768 * ns.length := fun ns => by
    induction ns with
    | nil => simp [kraft]
    | cons x ns ih =>
      have e : kraft (x :: ns) = (if x = 0 then 0 else 2 ^ (15 - x)) + kraft ns := by simp [kraft]
      have h2 : 2 ^ (15 - x) ≤ 2 ^ 15 := Nat.pow_le_pow_right (by decide) (by omega)
      rw [(by decide : 2 ^ 15 = 32768)] at h2
      rw [e, List.length_cons]
      split <;> omega
  have := hk ns
  omega
theorem low_setRow {B g : Nat} {w0 w : World} (hb : Below B w0 w) (hBg : B ≤ g) (cs : Array Value) : Below B w0 (w.setRow g cs) := hb.trans ⟨rfl, rfl, rfl, by simp, fun k hk => setRow_other w g k cs (by omega)⟩
theorem shl_sum (S X : Nat) (hS : S ≤ 9437184) : wrap64 ((S : Int) + wrap64 (2 ^ (15 - X))) = ((S + 2 ^ (15 - X) : Nat) : Int) := by
  have h1 : 2 ^ (15 - X) ≤ 32768 := Nat.pow_le_pow_right (n := 2) (by decide) (Nat.sub_le 15 X)
  rw [pow_cast]
  generalize 2 ^ (15 - X) = pw at h1 ⊢
  have h2 := wrap64_in (pw : Int) (by omega)
  rw [h2, wrap64_in _ (by omega)]
  omega
theorem zero_size : zeroCode.size = 32 := rfl
theorem zero_one : zeroCode.all (·.oneCell') = true := by kernel_rfl
theorem two_new (w : World) (o1 o2 : Obj) : ((w.alloc o1).alloc o2).heap[w.heap.size]? = some o1 ∧ ((w.alloc o1).alloc o2).heap[w.heap.size + 1]? = some o2 ∧ Below w.heap.size w ((w.alloc o1).alloc o2) :=
  ⟨(Below.heap_alloc _ _ _ (by simp)).trans (heap_alloc_new w o1), by simpa using heap_alloc_new (w.alloc o1) o2, ((Below.refl _ _).alloc (Nat.le_refl _) _).alloc (by simp) _⟩
/-- the number behind the last word of k bits -/
def pnext (ns : List Nat) (k : Nat) : Nat := if k = 0 then 0 else pfirst ns k + pcnt ns k
theorem pnext_two (ns : List Nat) {n : Nat} (h : 1 ≤ n) : 2 * pnext ns (n - 1) = pfirst ns n := by
  obtain ⟨k, rfl⟩ : ∃ k, n = k + 1 := ⟨n - 1, by omega⟩
  rw [Nat.add_sub_cancel]
  rcases Nat.eq_zero_or_pos k with rfl | h0
  · rfl
  · rw [pfirst_step ns h0, pnext, if_neg (by omega)]
theorem pfirst_rough (ns : List Nat) (hl : ns.length ≤ 288) : ∀ n, pfirst ns (n + 1) + 576 ≤ 576 * 2 ^ (n + 1)
  | 0 => by simp [pfirst]
  | n + 1 => by
    have ih := pfirst_rough ns hl n
    have hc : pcnt ns (n + 1) ≤ 288 := Nat.le_trans List.count_le_length hl
    rw [pfirst_step ns (by omega), Nat.pow_succ]
    omega
theorem pfirst_bd (ns : List Nat) (hl : ns.length ≤ 288) {n : Nat} (h0 : 1 ≤ n) (h1 : n ≤ 15) : pfirst ns n ≤ 18874368 := by
  obtain ⟨k, rfl⟩ : ∃ k, n = k + 1 := ⟨n - 1, by omega⟩
  have h2 := pfirst_rough ns hl k
  have h3 : 2 ^ (k + 1) ≤ 32768 := Nat.pow_le_pow_right (n := 2) (by decide) h1
  generalize 2 ^ (k + 1) = p at *
  omega
/-- what the cells say of the words of m bits, when those of less than n bits are made -/
def StC (W : World) (F : Nat → Prop) (ns : List Nat) (cs : Array Value) (n m : Nat) : Prop :=
  if m < n then cs[m]? = some (.int .i64 (pfirst ns m)) ∧ ∃ a c, cs[16 + m]? = some (.slice a (pcnt ns m) c) ∧ Row W F a (pidx ns m) else cs[16 + m]? = some (.slice none 0 0)
theorem StC.keep {W W' : World} {F F' : Nat → Prop} {ns : List Nat} {cs cs' : Array Value} {n m : Nat} (h : StC W F ns cs n m) (hs : ∀ b, F b → W'.heap[b]? = W.heap[b]?) (hF : ∀ b, F b → F' b) (h1 : cs'[m]? = cs[m]?) (h2 : cs'[16 + m]? = cs[16 + m]?) : StC W' F' ns cs' n m := by
  unfold StC at *
  rw [h1, h2]
  split at h
  · rename_i hlt
    rw [if_pos hlt]
    obtain ⟨g1, a, c, g2, g3⟩ := h
    exact ⟨g1, a, c, g2, (g3.keep hs).more hF⟩
  · rename_i hlt
    rw [if_neg hlt]; exact h
theorem StC.next {W : World} {F : Nat → Prop} {ns : List Nat} {cs : Array Value} {n m : Nat} (h : StC W F ns cs n m) (hm : m ≠ n) : StC W F ns cs (n + 1) m := by
  unfold StC at *
  by_cases hlt : m < n
  · rw [if_pos hlt] at h; rw [if_pos (by omega)]; exact h
  · rw [if_neg hlt] at h; rw [if_neg (by omega)]; exact h
/-- of the first s symbols those with words of n bits -/
def pidxTo (ns : List Nat) (n s : Nat) : List Nat := (List.range s).filter fun i => ns.getD i 0 == n
theorem pidxTo_succ (ns : List Nat) (n s : Nat) : pidxTo ns n (s + 1) = pidxTo ns n s ++ (if ns.getD s 0 = n then [s] else []) := by
  unfold pidxTo
  rw [List.range_succ, List.filter_append, List.filter_cons, List.filter_nil]
  by_cases e : ns.getD s 0 = n
  · rw [if_pos (by rw [e]; simp), if_pos e]
  · rw [if_neg (by rw [beq_iff_eq]; exact e), if_neg e]
theorem pidxTo_le (ns : List Nat) (n s : Nat) : (pidxTo ns n s).length ≤ s := Nat.le_trans (List.length_filter_le _ _) (by simp)
theorem add_off' (b k : Nat) : (⟨b, 0, none⟩ : Addr).add k = ⟨b, k, none⟩ := by unfold Addr.add; split <;> simp_all
theorem row_of_own {W : World} {base : Nat} {a : Option Addr} {k c : Nat} {l : List Nat} (h : W.ownsRow base 3 1 (.slice a k c) k (l.map fun (i : Nat) => Value.int .i64 (i : Int))) (hl : l.length = k) : Row W (fun b => base ≤ b ∧ b < W.heap.size) a l := fun hp => by
  obtain ⟨g, cap, hv, hg, hlt⟩ := h.form (by omega)
  have hA : a = some ⟨g, 0, none⟩ := by injection hv
  subst hA
  refine ⟨g, 0, rfl, ⟨hg, hlt⟩, fun i t ht => ?_⟩
  have := h.cells (g := g) rfl i (.int .i64 (t : Int)) (by rw [List.getElem?_map, ht]; rfl)
  rw [add_off'] at this
  rw [Nat.zero_add]; exact this
theorem own_ne {W : World} {base : Nat} {t : TypeId} {a : Option Addr} {k c i : Nat} {xs : List Value} (h : W.ownsRow base t 1 (.slice a k c) k xs) (hi : i < base) : (Value.slice a k c).ownBlock ≠ some i := by
  rcases h.2 with ⟨e, _⟩ | ⟨g, cap, cur, e, hg, _⟩
  · rw [e]; simp [Value.ownBlock]
  · rw [e]; intro q; simp [Value.ownBlock] at q; omega
theorem int_info : (Tryd.prog.info? 3).map (fun i => (i.zero, i.size, i.bytes)) = some (some (.int .i64 0), 1, 8) := by kernel_rfl
theorem all_set {cs : Array Value} (h : cs.all (·.oneCell') = true) (i : Nat) {v : Value} (hv : v.oneCell' = true) : (cs.setIfInBounds i v).all (·.oneCell') = true := by
  rw [Array.all_eq_true_iff_forall_mem] at h ⊢
  intro u hu
  rcases Array.mem_or_eq_of_mem_setIfInBounds hu with q | q
  · exact h u q
  · rw [q]; exact hv
theorem nsOf_get {q : List Int} (h : inR q = true) (i : Nat) : q.getD i 0 = (((nsOf q).getD i 0 : Nat) : Int) ∧ (nsOf q).getD i 0 ≤ 15 := by
  unfold nsOf
  rw [List.getD_eq_getElem?_getD, List.getD_eq_getElem?_getD, List.getElem?_map]
  by_cases hi : i < q.length
  · rw [List.getElem?_eq_getElem hi]
    rw [inR, List.all_eq_true] at h
    have := h q[i] (List.getElem_mem hi)
    simp at this
    simp; omega
  · rw [List.getElem?_eq_none (by omega)]; simp
theorem kraft_all : ∀ ns : List Nat, kraft ns ≤ 16384 * allN ns
  | [] => by simp [kraft]
  | x :: ns => by
    have ih := kraft_all ns
    have e : kraft (x :: ns) = (if x = 0 then 0 else 2 ^ (15 - x)) + kraft ns := by simp [kraft]
    by_cases h : x = 0
    · have e2 : allN (x :: ns) = allN ns := by simp [allN, h]
      rw [e, e2, if_pos h]; omega
    · have e2 : allN (x :: ns) = allN ns + 1 := by simp [allN, h]
      have h2 : 2 ^ (15 - x) ≤ 16384 := Nat.pow_le_pow_right (n := 2) (j := 14) (by decide) (by omega)
      rw [e, e2, if_neg h]; omega
/-- lengths that are a code take up no more than there is -/
theorem okN_kraft {ns : List Nat} {lone : Bool} (h : okN ns lone = true) : kraft ns ≤ 2 ^ 15 := by
  have hk := kraft_all ns
  have e : 2 ^ 15 = 32768 := by decide
  rw [e]
  simp only [okN, Bool.or_eq_true, Bool.and_eq_true, decide_eq_true_eq] at h
  rcases h with h | ⟨_, h | ⟨h, _⟩⟩
  · omega
  · rw [h] at hk; omega
  · rw [h] at hk; omega
theorem inR_le {q : List Int} (h : inR q = true) : ∀ n ∈ nsOf q, n ≤ 15 := fun n hn => by
  obtain ⟨x, hx, rfl⟩ := List.mem_map.1 hn
  rw [inR, List.all_eq_true] at h
  have := h x hx
  simp at this; omega
end Go.Proofs.YtdcpibglbanchaaDoor

set_option linter.unusedVariables false
set_option maxRecDepth 100000
namespace Go.Proofs.YtdcpibglbanchaaDoor
open Go.RowKit

/-- of the j-th symbol of lengths how many bits are further -/
def moreL (j : Nat) : Nat := if 8 ≤ j then 1 + (j - 8) / 4 else 0
def leastL : Nat → Nat
  | 0 => 3
  | j + 1 => leastL j + 2 ^ moreL j
theorem lenL_bd : ∀ i, i ≤ 27 → leastL i ≤ 300 ∧ moreL i ≤ 5 := by decide
/-- of the j-th symbol of distances how many bits are further -/
def moreD (j : Nat) : Nat := if 4 ≤ j then 1 + (j - 4) / 2 else 0
def leastD : Nat → Nat
  | 0 => 1
  | j + 1 => leastD j + 2 ^ moreD j
theorem lenD_bd : ∀ i, i ≤ 29 → leastD i ≤ 32768 ∧ moreD i ≤ 13 := by decide
end Go.Proofs.YtdcpibglbanchaaDoor
