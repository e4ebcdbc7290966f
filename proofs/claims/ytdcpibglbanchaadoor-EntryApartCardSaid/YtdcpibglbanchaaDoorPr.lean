/- Pure facts for a code that is laid symbol by symbol: a map of words, rows of sixteen numbers, the longest word. No condition; no program is named but for its keys. What package prefix asks of sixteen counts: contracts of isFull, isLone and firsts. Condition: the counts are those of up to 288 lengths of up to 15 bits. What package prefix lays for lengths that are a code: contract of laid. Condition: up to 288 lengths of up to 15 bits that take up no more than there is. What package prefix makes of any lengths: contract of New. Condition: the lengths fit their kinds. What a code of package prefix reads: contract of Next. Condition: the code is one of New's. What a code of package prefix answers: contract of Word. Condition: the code is one of New's; the number fits its kind. -/
import Derived.Test.YtdcpibglbanchaaDoorPp
import Derived.Test.YtdcpibglbanchaaDoorGa
import Derived.Maps.OwnSet
import Derived.DeepKeys5
import Derived.MapViews
import Derived.Test.YtdcpibglbanchaaDoorRef
import Derived.Test.YtdcpibglbanchaaDoorRg
import Derived.Test.YtdcpibglbanchaaDoorRd
set_option linter.unusedVariables false
set_option maxRecDepth 100000
namespace Go.Proofs.YtdcpibglbanchaaDoor
open Go.RowKit Go.Maps

/-- sixteen numbers -/
def arr (f : Nat → Int) : Array Value := ((List.range 16).map fun i => Value.int .i64 (f i)).toArray
theorem arr_size (f : Nat → Int) : (arr f).size = 16 := by simp [arr]
theorem arr_get (f : Nat → Int) {i : Nat} (h : i < 16) : (arr f)[i]? = some (.int .i64 (f i)) := by
  unfold arr
  rw [List.getElem?_toArray, List.getElem?_map, List.getElem?_range h]; rfl
theorem arr_ext {cs : Array Value} {f : Nat → Int} (hs : cs.size = 16) (h : ∀ i, i < 16 → cs[i]? = some (.int .i64 (f i))) : cs = arr f := by
  apply Array.ext_getElem?
  intro i
  by_cases hi : i < 16
  · rw [h i hi, arr_get f hi]
  · rw [Array.getElem?_eq_none (by omega), Array.getElem?_eq_none (by rw [arr_size]; omega)]
theorem arr_set (f : Nat → Int) (i : Nat) (v : Int) : (arr f).setIfInBounds i (.int .i64 v) = arr fun j => if j = i then v else f j := by
  apply arr_ext
  · simp [arr_size]
  · intro j hj
    rw [Array.getElem?_setIfInBounds]
    by_cases h : i = j
    · subst h; simp [arr_size, hj]
    · rw [if_neg h, arr_get f hj, if_neg (fun e => h e.symm)]
theorem arr_congr {f g : Nat → Int} (h : ∀ i, i < 16 → f i = g i) : arr f = arr g := arr_ext (arr_size f) fun i hi => by rw [arr_get f hi, h i hi]

/-- a word of n bits, as a key -/
def wkey (n v : Nat) : Value := .agg #[.int .i64 (n : Int), .int .i64 (v : Int)]
noncomputable def kl (n v : Nat) : Lit := (keyOf Tryd.prog 118 (wkey n v)).getD (.bool false)
theorem wf_nat {n : Nat} (h : n < 9223372036854775808) : (Lit.int .i64 (n : Int)).wf = true := WalkArith.wf_i64 (by omega)
/-- the map reads as this look-up -/
def MapIs (D : DataW Unit) (f : Nat → Nat → Option Nat) : Prop :=
  ∀ n v, n < 9223372036854775808 → v < 9223372036854775808 → Maps.has D (kl n v) = (f n v).isSome ∧ ∀ s, f n v = some s → D.atKey (kl n v) (.lit (.int .i64 0)) = .lit (.int .i64 (s : Int))
theorem mapIs_empty : MapIs (.map []) fun _ _ => none := fun n v _ _ => ⟨rfl, fun s h => by cases h⟩
/-- of the first s symbols the one whose word the n bits v are -/
def plookTo (ns : List Nat) (s n v : Nat) : Option Nat := (plook ns n v).filter fun t => decide (t < s ∧ 1 ≤ n)
theorem plookTo_iff (ns : List Nat) (s n v t : Nat) : plookTo ns s n v = some t ↔ t < s ∧ 1 ≤ n ∧ t < ns.length ∧ ns.getD t 0 = n ∧ pword ns t = v := by
  unfold plookTo
  rw [Option.filter_eq_some_iff, plook_iff]
  simp only [decide_eq_true_eq]
  omega
theorem plookTo_all (ns : List Nat) {n : Nat} (h : 1 ≤ n) (v : Nat) : plookTo ns ns.length n v = plook ns n v := by
  cases hp : plook ns n v with
  | none => simp [plookTo, hp]
  | some t =>
    rw [plookTo_iff]
    have := (plook_iff ns n v t).1 hp
    exact ⟨this.1, h, this⟩
theorem plookTo_zero (ns : List Nat) (n v : Nat) : plookTo ns 0 n v = none := by
  cases h : plookTo ns 0 n v with
  | none => rfl
  | some t => have := (plookTo_iff ns 0 n v t).1 h; omega
/-- words differ from symbol to symbol -/
theorem pword_ne {ns : List Nat} {s t : Nat} (hs : s < ns.length) (ht : t < ns.length) (he : ns.getD s 0 = ns.getD t 0) (hw : pword ns s = pword ns t) : s = t := by
  rcases Nat.lt_trichotomy s t with q | q | q
  · have := pword_rise ns q ht he; omega
  · exact q
  · have := pword_rise ns q hs he.symm; omega
theorem plookTo_succ (ns : List Nat) {s : Nat} (hs : s < ns.length) (n v : Nat) :
    plookTo ns (s + 1) n v = if 1 ≤ ns.getD s 0 ∧ n = ns.getD s 0 ∧ v = pword ns s then some s else plookTo ns s n v := by
  split
  · rename_i h
    obtain ⟨h0, rfl, rfl⟩ := h
    rw [plookTo_iff]; exact ⟨by omega, h0, hs, rfl, rfl⟩
  · rename_i h
    cases h1 : plookTo ns s n v with
    | some t =>
      have := (plookTo_iff ns s n v t).1 h1
      rw [plookTo_iff]; exact ⟨by omega, this.2⟩
    | none =>
      cases h2 : plookTo ns (s + 1) n v with
      | none => rfl
      | some t =>
        exfalso
        obtain ⟨q1, q2, q3, q4, q5⟩ := (plookTo_iff ns (s + 1) n v t).1 h2
        by_cases e : t = s
        · subst e; exact h ⟨by omega, q4.symm, q5.symm⟩
        · have := (plookTo_iff ns s n v t).2 ⟨by omega, q2, q3, q4, q5⟩
          rw [h1] at this; cases this
theorem plookTo_skip (ns : List Nat) {s : Nat} (hs : s < ns.length) (h0 : ns.getD s 0 = 0) : plookTo ns (s + 1) = plookTo ns s := by
  funext n v
  rw [plookTo_succ ns hs, if_neg (by omega)]
theorem MapIs.congr {D : DataW Unit} {f g : Nat → Nat → Option Nat} (h : MapIs D f) (e : f = g) : MapIs D g := e ▸ h
/-- the longest of some lengths -/
def LongTo (ns : List Nat) (s m : Nat) : Prop := (∀ i, i < s → ns.getD i 0 ≤ m) ∧ (m = 0 ∨ ∃ i, i < s ∧ ns.getD i 0 = m)
theorem longTo_zero (ns : List Nat) : LongTo ns 0 0 := ⟨fun i h => by omega, .inl rfl⟩
theorem LongTo.succ {ns : List Nat} {s m : Nat} (h : LongTo ns s m) : LongTo ns (s + 1) (max m (ns.getD s 0)) := by
  refine ⟨fun i hi => ?_, ?_⟩
  · rcases Nat.lt_or_ge i s with q | q
    · have := h.1 i q; omega
    · obtain rfl : i = s := by omega
      omega
  · rcases Nat.le_total m (ns.getD s 0) with q | q
    · exact .inr ⟨s, by omega, by omega⟩
    · rw [Nat.max_eq_left q]
      rcases h.2 with e | ⟨i, h1, h2⟩
      · exact .inl e
      · exact .inr ⟨i, by omega, h2⟩
theorem LongTo.skip {ns : List Nat} {s m : Nat} (h : LongTo ns s m) (h0 : ns.getD s 0 = 0) : LongTo ns (s + 1) m := by
  have := h.succ
  rwa [h0, Nat.max_eq_left (Nat.zero_le _)] at this
theorem longTo_all {ns : List Nat} (hall : ∀ n ∈ ns, n ≤ 15) {m : Nat} (h : LongTo ns ns.length m) : m = plong ns 15 := by
  have hmem : ∀ n, pcnt ns n ≠ 0 ↔ n ∈ ns := fun n => by unfold pcnt; rw [← Nat.pos_iff_ne_zero, List.count_pos_iff]
  have hle : plong ns 15 ≤ m := by
    by_cases e : plong ns 15 = 0
    · omega
    · have h1 := (hmem _).1 (plong_cnt ns 15 e)
      obtain ⟨i, hi, he⟩ := List.mem_iff_getElem.1 h1
      have := h.1 i hi
      rw [List.getD_eq_getElem?_getD, List.getElem?_eq_getElem hi] at this
      simp at this; omega
  have hge : m ≤ plong ns 15 := by
    rcases h.2 with e | ⟨i, hi, he⟩
    · omega
    · rw [List.getD_eq_getElem?_getD, List.getElem?_eq_getElem hi] at he
      have hm : m ∈ ns := by rw [← he]; exact List.getElem_mem hi
      exact plong_ge ns ((hmem m).2 hm) 15 (hall m hm)
  omega
theorem word_keys : WideMaps.KeyLaw Tryd.prog 118 := (deep_law_laid (m := 4) (by kernel_rfl) (by decide) (of_decide_eq_true (by kernel_rfl)) (by kernel_rfl) (by kernel_rfl))
theorem word_law : Keyed Tryd.prog 118 := Keyed.of_law word_keys
theorem wkey_is {n v : Nat} (hn : n < 9223372036854775808) (hv : v < 9223372036854775808) : keyOf Tryd.prog 118 (wkey n v) = some (kl n v) := by
  have h1 := wf_nat hn
  have h2 := wf_nat hv
  have : ∃ l, keyOf Tryd.prog 118 (wkey n v) = some l := by
    have hkt : Tryd.prog.keyType 118 = true := by kernel_rfl
    obtain ⟨m, hm⟩ : ∃ m, Tryd.prog.types.size = m + 1 := ⟨Tryd.prog.types.size - 1, by kernel_rfl⟩
    have hc : Tryd.prog.cellsOf 118 = 2 := by kernel_rfl
    have hci : Tryd.prog.cellsOf 3 = 1 := by kernel_rfl
    unfold wkey keyOf
    simp only [Tryd.underlying118]
    rw [if_pos (by simp [hkt, Value.formed, Tryd.underlying118, hc]), hm]
    unfold Program.keyLits
    simp only [Tryd.underlying118, Value.cells]
    rw [if_pos ⟨by rw [hc]; rfl, by kernel_rfl⟩]
    simp [hci, Program.keyLits, Tryd.underlying3, h1, h2]
  obtain ⟨l, hl⟩ := this
  unfold kl
  rw [hl]; rfl
theorem kl_ne {n v n' v' : Nat} (hn : n < 9223372036854775808) (hv : v < 9223372036854775808) (hn' : n' < 9223372036854775808) (hv' : v' < 9223372036854775808) (h : ¬ (n = n' ∧ v = v')) : kl n v ≠ kl n' v' := fun e => by
  have h1 := wkey_is hn hv
  have h2 := wkey_is hn' hv'
  rw [← e] at h2
  have h3 := word_law.inj h1 h2
  unfold wkey at h3
  simp at h3
  omega
/-- what the map reads as when a word is put -/
theorem MapIs.put {D : DataW Unit} {f : Nat → Nat → Option Nat} (h : MapIs D f) (hD : IsMap D) {n v s : Nat} (hn : n < 9223372036854775808) (hv : v < 9223372036854775808) :
    MapIs (D.put (kl n v) (.lit (.int .i64 (s : Int)))) fun m u => if m = n ∧ u = v then some s else f m u := fun m u hm hu => by
  have hk : WideAt.IsKeyLit (kl n v) := word_law.key (wkey_is hn hv)
  by_cases e : m = n ∧ u = v
  · obtain ⟨rfl, rfl⟩ := e
    simp only [and_self, if_true]
    exact ⟨has_put_same hD hk _, fun t ht => by injection ht with ht; subst ht; exact atKey_put_same hD hk _ _⟩
  · simp only [e, if_false]
    have hne := kl_ne hm hu hn hv e
    obtain ⟨h1, h2⟩ := h m u hm hu
    exact ⟨by rw [has_put_other hne]; exact h1, fun t ht => by rw [atKey_put_other hne]; exact h2 t ht⟩
end Go.Proofs.YtdcpibglbanchaaDoor

set_option linter.unusedVariables false
set_option maxRecDepth 100000
namespace Go.Proofs.YtdcpibglbanchaaDoor
open Go.RowKit

def cntF (ns : List Nat) (i : Nat) : Int := (pcnt ns i : Int)
theorem pcnt_le (ns : List Nat) (n : Nat) : pcnt ns n ≤ ns.length := List.count_le_length
theorem full_step (ns : List Nat) (hl : ns.length ≤ 288) {n : Nat} (h0 : 1 ≤ n) (h1 : n ≤ 15) (hp : ppart ns (n - 1) ≤ 4718592 * (n - 1)) :
    wrap64 (((32768 - (ppart ns (n - 1) : Int)) : Int) - wrap64 ((pcnt ns n : Int) * 2 ^ (15 - n))) = 32768 - (ppart ns n : Int) ∧ ppart ns n ≤ 4718592 * n := by
  obtain ⟨k, rfl⟩ : ∃ k, n = k + 1 := ⟨n - 1, by omega⟩
  rw [Nat.add_sub_cancel] at hp ⊢
  have h2 : 2 ^ (15 - (k + 1)) ≤ 16384 := Nat.pow_le_pow_right (n := 2) (j := 14) (by decide) (by omega)
  have hc := pcnt_le ns (k + 1)
  have e : ppart ns (k + 1) = ppart ns k + pcnt ns (k + 1) * 2 ^ (15 - (k + 1)) := rfl
  rw [e, pow_cast, ← Int.natCast_mul]
  have h3 : pcnt ns (k + 1) * 2 ^ (15 - (k + 1)) ≤ 288 * 16384 := Nat.mul_le_mul (by omega) h2
  generalize pcnt ns (k + 1) * 2 ^ (15 - (k + 1)) = q at *
  rw [wrap64_in (q : Int) (by omega), wrap64_in _ (by omega)]
  omega
set_option maxHeartbeats 1000000 in
theorem isFull_is {w : World} {ns : List Nat} (hl : ns.length ≤ 288) (hall : ∀ n ∈ ns, n ≤ 15) :
    Calls Tryd.prog 65 #[.agg (arr (cntF ns))] w fun e w' => e = .returned (.bool (decide (kraft ns = 32768))) ∧ Below w.heap.size w w' := by
  have hbel : Below w.heap.size w (w.alloc (.cells (arr (cntF ns)) 127)) := (Below.refl _ _).alloc (Nat.le_refl _) _
  have hh := heap_alloc_new w (.cells (arr (cntF ns)) 127)
  have HB := Lib.hid hbel; clear hbel
  go_enter Tryd.func65, Tryd.ntmps65
  go_wp2_with fail
  go_loop [3, 4] (fun r v => ∃ n : Nat, 1 ≤ n ∧ n ≤ 16 ∧ v = .int .i64 n ∧ r = .int .i64 (32768 - (ppart ns (n - 1) : Int)) ∧ ppart ns (n - 1) ≤ 4718592 * (n - 1)) (fun _ v => 16 - (intOf v).toNat)
  case atStart => exact ⟨1, by omega, by omega, rfl, rfl, by simp [ppart]⟩
  case round =>
    obtain ⟨n, h1, h2, rfl, rfl, h3⟩ := hrel
    by_cases hlt : n ≤ 15
    · obtain ⟨hst, hb2⟩ := full_step ns hl h1 hlt h3
      have hc : (w.alloc (.cells (arr (cntF ns)) 127)).cell? ⟨w.heap.size, n, none⟩ = some (.int .i64 (pcnt ns n)) := by rw [blk_cell hh]; exact arr_get _ (by omega)
      have i0 : (0 : Int) ≤ (n : Int) := by omega
      have i1 : (n : Int) < 16 := by omega
      have HS := Lib.hid hst
      have HB2 := Lib.hid hb2
      clear hh hst hb2
      generalize pcnt ns n = c at *
      generalize ppart ns (n - 1) = q at *
      go_wp2_with fail
      exact ⟨⟨n + 1, by omega, by omega, by go_num, by rw [HS.out, Nat.add_sub_cancel], by rw [Nat.add_sub_cancel]; exact HB2.out⟩, by simp [intOf]; omega⟩
    · obtain rfl : n = 16 := by omega
      go_wp2_with fail
      go_ret
      refine ⟨retb ?_, HB.out⟩
      rw [kraft_part hall]
      have : ppart ns (16 - 1) = ppart ns 15 := rfl
      rw [this]
      generalize ppart ns 15 = q
      rw [Bool.eq_iff_iff]; simp; omega
set_option maxHeartbeats 1000000 in
theorem isLone_is {w : World} {ns : List Nat} (hl : ns.length ≤ 288) :
    Calls Tryd.prog 66 #[.agg (arr (cntF ns)), .int .i64 ns.length] w fun e w' => e = .returned (.bool (decide (ns.length - pcnt ns 0 = 0) || decide (ns.length - pcnt ns 0 = 1) && decide (pcnt ns 1 = 1))) ∧ Below w.heap.size w w' := by
  have hbel : Below w.heap.size w (w.alloc (.cells (arr (cntF ns)) 127)) := (Below.refl _ _).alloc (Nat.le_refl _) _
  have hh := heap_alloc_new w (.cells (arr (cntF ns)) 127)
  have c0 : (w.alloc (.cells (arr (cntF ns)) 127)).cell? ⟨w.heap.size, 0, none⟩ = some (.int .i64 (pcnt ns 0)) := by rw [blk_cell hh]; exact arr_get _ (by omega)
  have c1 : (w.alloc (.cells (arr (cntF ns)) 127)).cell? ⟨w.heap.size, 1, none⟩ = some (.int .i64 (pcnt ns 1)) := by rw [blk_cell hh]; exact arr_get _ (by omega)
  have h0 := pcnt_le ns 0
  have h1 := pcnt_le ns 1
  have HB := Lib.hid hbel; clear hbel hh
  generalize pcnt ns 0 = z at *
  generalize pcnt ns 1 = o at *
  obtain ⟨d, hd⟩ : ∃ d : Nat, ns.length - z = d := ⟨_, rfl⟩
  have hdz : ((ns.length : Int) - z) = (d : Int) := by omega
  have hdw : IntKind.i64.wrap ((ns.length : Int) - z) = (d : Int) := by rw [hdz]; exact IntWalk.i64_in _ (by omega)
  rw [hd]
  generalize ns.length = L at *
  have HD := Lib.hid hd; clear hd
  by_cases hd0 : d = 0
  · subst hd0
    go_enter Tryd.func66, Tryd.ntmps66
    go_wp2_with fail
    go_ret
    exact ⟨rfl, HB.out⟩
  · have g0 : ((d : Int) == 0) = false := by simp; omega
    by_cases hd1 : d = 1
    · subst hd1
      by_cases ho : o = 1
      · subst ho
        go_enter Tryd.func66, Tryd.ntmps66
        go_wp2_with fail
        go_ret
        exact ⟨rfl, HB.out⟩
      · have g1 : ((o : Int) == 1) = false := by simp; omega
        have g2 : decide (o = 1) = false := by simp [ho]
        rw [g2]
        go_enter Tryd.func66, Tryd.ntmps66
        go_wp2_with fail
        go_ret
        exact ⟨rfl, HB.out⟩
    · have g1 : ((d : Int) == 1) = false := by simp; omega
      have g2 : decide (d = 1) = false := by simp [hd1]
      have g3 : decide (d = 0) = false := by simp [hd0]
      rw [g2, g3]
      go_enter Tryd.func66, Tryd.ntmps66
      go_wp2_with fail
      go_ret
      exact ⟨rfl, HB.out⟩
theorem arr_ld {ops : Array Oper} {rest : List Oper} {op : Oper} {a : Act} {W : World} {Q : Exit → Act → World → Prop} {x : Operand} {f : Nat → Int} (hgd : op.guard = none) (ho : op.op = .load 127 x) (b : Nat) (hx : a.eval x = .pointer (some ⟨b, 0, none⟩)) (hh : W.heap[b]? = some (.cells (arr f) 127 (0, 0)))
    (h : wpList Tryd.prog ops Q rest (a.put op.dst (.agg (arr f))) W) : wpList Tryd.prog ops Q (op :: rest) a W := by
  refine wpList_load_mid hgd 127 x ho b 0 hx (arr f).toList _ (fun j v hv => ?_) Tryd.underlying127 rfl ?_ (by simpa using h)
  · rw [Nat.zero_add, blk_cell hh]; simpa using hv
  · rw [Array.length_toList, arr_size]; kernel_rfl
theorem wpList_wanted {P : Program} {ops : Array Oper} {rest : List Oper} {o : Oper} {a : Act} {w : World} {Q : Exit → Act → World → Prop} (hw : Region.wanted o (yielded ops a.tmps) = true) (h : ∀ K : Act → World → Prop, (∀ a w, wpList P ops Q rest a w → K a w) → o.wp P a w K Q) : wpList P ops Q (o :: rest) a w := by
  unfold wpList
  rw [if_pos hw]
  exact .inl (h _ fun _ _ h => h)
theorem arr_ldg {ops : Array Oper} {rest : List Oper} {op : Oper} {a : Act} {W : World} {Q : Exit → Act → World → Prop} {x : Operand} {f : Nat → Int} (hw : Region.wanted op (yielded ops a.tmps) = true) (ho : op.op = .load 127 x) (b : Nat) (hx : a.eval x = .pointer (some ⟨b, 0, none⟩)) (hh : W.heap[b]? = some (.cells (arr f) 127 (0, 0)))
    (h : wpList Tryd.prog ops Q rest (a.put op.dst (.agg (arr f))) W) : wpList Tryd.prog ops Q (op :: rest) a W :=
  wpList_wanted hw fun K hK => wp_load_mid 127 x ho b 0 hx (arr f).toList _ (fun j v hv => by rw [Nat.zero_add, blk_cell hh]; simpa using hv) Tryd.underlying127 rfl (by rw [Array.length_toList, arr_size]; kernel_rfl) (hK _ _ (by simpa using h))
theorem arr_one (f : Nat → Int) : (arr f).all (·.oneCell') = true := by
  rw [Array.all_eq_true_iff_forall_mem]
  intro u hu
  simp [arr] at hu
  obtain ⟨i, _, rfl⟩ := hu
  rfl
theorem arr_st {ops : Array Oper} {rest : List Oper} {op : Oper} {a : Act} {W : World} {Q : Exit → Act → World → Prop} {x y : Operand} {f f0 : Nat → Int} (hgd : op.guard = none) (ho : op.op = .store 127 x y) (b : Nat) (hx : a.eval x = .pointer (some ⟨b, 0, none⟩)) (hy : a.eval y = .agg (arr f)) (hh : W.heap[b]? = some (.cells (arr f0) 127 (0, 0)))
    (h : wpList Tryd.prog ops Q rest (a.put op.dst undef) (W.setRow b (arr f))) : wpList Tryd.prog ops Q (op :: rest) a W :=
  wpList_plain hgd fun _ hK => by
    have hi : (Tryd.prog.info? 127).map (·.size) = some (arr f).size := by rw [arr_size]; kernel_rfl
    unfold Oper.wp execOp
    simp only [ho, hx, hy, Instr.storeAt, Instr.sureAddr, Sem.run_bind, Sem.run_pure, Result.andThen_ok, run_storeVar_row W b 127 127 (arr f0) (arr f) hh hi (by rw [arr_size, arr_size]) (arr_one f)]
    exact hK _ _ h
theorem arr_ret {fn : Func} {tmps : Array Value} {W : World} {b : Nat} {f : Nat → Int} (hf : fn.results = #[.cell 2 127]) (h4 : tmps.getD 2 undef = .pointer (some ⟨b, 0, none⟩)) (hh : W.heap[b]? = some (.cells (arr f) 127 (0, 0))) :
    (results fn tmps).run Tryd.prog W = .ok (.agg (arr f)) W := by
  have hl := run_loadVar_row (P := Tryd.prog) W b _ 127 (arr f) (0, 0) _ hh Tryd.underlying127 rfl (by rw [arr_size]; kernel_rfl)
  have h4' : tmps[2]?.getD undef = .pointer (some ⟨b, 0, none⟩) := by rw [← h4, Array.getD_eq_getD_getElem?]
  simp only [results, hf]
  simp [h4', asAddr, hl]
theorem zeroA (W : World) : (zeroValue 127).run Tryd.prog W = .ok (.agg (arr fun _ => 0)) W := by kernel_rfl
set_option maxHeartbeats 2000000 in
theorem firsts_is {w : World} {ns : List Nat} (hl : ns.length ≤ 288) :
    Calls Tryd.prog 80 #[.agg (arr (cntF ns))] w fun e w' => e = .returned (.agg (arr fun i => (pfirst ns i : Int))) ∧ Below w.heap.size w w' := by
  have hz := zeroA
  go_enter Tryd.func80, Tryd.ntmps80
  go_wp2_with fail
  have hw1 : Below w.heap.size w (((w.alloc (.cells (arr (cntF ns)) 127)).alloc (.cells (arr fun _ => 0) 127)).alloc (.cells (arr fun _ => 0) 127)) := (((Below.refl _ _).alloc (Nat.le_refl _) _).alloc (by simp) _).alloc (by simp; omega) _
  have hc0 : (((w.alloc (.cells (arr (cntF ns)) 127)).alloc (.cells (arr fun _ => 0) 127)).alloc (.cells (arr fun _ => 0) 127)).heap[w.heap.size]? = some (.cells (arr (cntF ns)) 127 (0, 0)) := (Below.heap_alloc _ _ _ (by simp; omega)).trans ((Below.heap_alloc _ _ _ (by simp)).trans (heap_alloc_new _ _))
  have hc1 : (((w.alloc (.cells (arr (cntF ns)) 127)).alloc (.cells (arr fun _ => 0) 127)).alloc (.cells (arr fun _ => 0) 127)).heap[w.heap.size + 1]? = some (.cells (arr fun _ => 0) 127 (0, 0)) := (Below.heap_alloc _ _ _ (by simp)).trans (by simpa using heap_alloc_new (w.alloc (.cells (arr (cntF ns)) 127)) (.cells (arr fun _ => 0) 127))
  have hc2 : (((w.alloc (.cells (arr (cntF ns)) 127)).alloc (.cells (arr fun _ => 0) 127)).alloc (.cells (arr fun _ => 0) 127)).heap[w.heap.size + 1 + 1]? = some (.cells (arr fun _ => 0) 127 (0, 0)) := by simpa using heap_alloc_new ((w.alloc (.cells (arr (cntF ns)) 127)).alloc (.cells (arr fun _ => 0) 127)) (.cells (arr fun _ => 0) 127)
  generalize (((w.alloc (.cells (arr (cntF ns)) 127)).alloc (.cells (arr fun _ => 0) 127)).alloc (.cells (arr fun _ => 0) 127)) = w1 at *
  have H0 := Lib.hid (And.intro hc0 (And.intro hc1 (And.intro hc2 hw1)))
  clear hc0 hc1 hc2 hw1 hz
  go_loopw [4] (fun v wr => ∃ n : Nat, 2 ≤ n ∧ n ≤ 16 ∧ v = .int .i64 n ∧ Hid (wr.heap[w.heap.size]? = some (.cells (arr (cntF ns)) 127 (0, 0)) ∧ wr.heap[w.heap.size + 1]? = some (.cells (arr fun _ => 0) 127 (0, 0)) ∧ wr.heap[w.heap.size + 1 + 1]? = some (.cells (arr fun i => if i < n then (pfirst ns i : Int) else 0) 127 (0, 0)) ∧ Below w.heap.size w wr)) (fun v _ => 16 - (intOf v).toNat)
  case atStart =>
    refine ⟨2, by omega, by omega, rfl, Lib.hid ⟨H0.out.1, H0.out.2.1, ?_, H0.out.2.2.2⟩⟩
    rw [H0.out.2.2.1]
    have e : (arr fun _ => 0) = arr fun i => if i < 2 then (pfirst ns i : Int) else 0 := arr_congr fun i hi => by
      by_cases h : i < 2
      · rw [if_pos h]
        rcases (show i = 0 ∨ i = 1 by omega) with rfl | rfl <;> rfl
      · rw [if_neg h]
    rw [e]
  case round =>
    obtain ⟨n, h2, h16, rfl, H⟩ := hrel
    by_cases hlt : n ≤ 15
    · have c1 : wr.cell? ⟨w.heap.size + 1 + 1, n - 1, none⟩ = some (.int .i64 (pfirst ns (n - 1))) := by rw [blk_cell H.out.2.2.1, arr_get _ (by omega), if_pos (by omega)]
      have c2 : wr.cell? ⟨w.heap.size, n - 1, none⟩ = some (.int .i64 (pcnt ns (n - 1))) := by rw [blk_cell H.out.1]; exact arr_get _ (by omega)
      have f1 := blk_free H.out.2.2.1 n
      have c3 : wr.cell? ⟨w.heap.size + 1 + 1, n, none⟩ = some (.int .i64 0) := by rw [blk_cell H.out.2.2.1, arr_get _ (by omega), if_neg (by omega)]
      have hb1 := pfirst_bd ns hl (n := n - 1) (by omega) (by omega)
      have hb2 := pcnt_le ns (n - 1)
      have hst : pfirst ns n = 2 * (pfirst ns (n - 1) + pcnt ns (n - 1)) := by
        obtain ⟨k, rfl⟩ : ∃ k, n = k + 2 := ⟨n - 2, by omega⟩
        rfl
      have i0 : (0 : Int) ≤ (n : Int) - 1 := by omega
      have i1 : (n : Int) - 1 < 16 := by omega
      have i2 : (n : Int) < 16 := by omega
      have i3 : (0 : Int) ≤ (n : Int) := by omega
      have hn1 : IntKind.i64.wrap ((n : Int) - 1) = ((n - 1 : Nat) : Int) := by rw [IntWalk.i64_in _ (by omega)]; omega
      have HST := Lib.hid hst
      clear hst
      obtain ⟨u, hu⟩ : ∃ u, pfirst ns (n - 1) = u := ⟨_, rfl⟩
      obtain ⟨x, hx⟩ : ∃ x, pcnt ns (n - 1) = x := ⟨_, rfl⟩
      rw [hu] at c1 hb1 HST
      rw [hx] at c2 hb2 HST
      clear hu hx
      have hn2 : ((n : Int) - 1) = ((n - 1 : Nat) : Int) := by omega
      rw [hn2] at i0 i1
      generalize n - 1 = m at *
      go_wp2_with fail
      go_region
      go_wp2_with fail
      go_roundw
      case rel =>
        refine ⟨n + 1, by omega, by omega, by go_num, Lib.hid ⟨?_, ?_, ?_, ?_⟩⟩
        · exact (Below.heap_setCell wr ⟨w.heap.size + 1 + 1, n, none⟩ _ _ (by simp; omega)).trans H.out.1
        · exact (Below.heap_setCell wr ⟨w.heap.size + 1 + 1, n, none⟩ _ _ (by simp)).trans H.out.2.1
        · refine (blk_set H.out.2.2.1 n _).trans ?_
          rw [arr_set]
          congr 1
          congr 1
          refine arr_congr fun i hi => ?_
          by_cases e : i = n
          · subst e; rw [if_pos rfl, if_pos (by omega), HST.out]; omega
          · rw [if_neg e]
            by_cases h : i < n
            · rw [if_pos h, if_pos (by omega)]
            · rw [if_neg h, if_neg (by omega)]
        · exact low_drewN (H.out.2.2.2.setCell (p := ⟨w.heap.size + 1 + 1, n, none⟩) (by simp; omega) _) 1
      case measure => simp [intOf]; omega
    · obtain rfl : n = 16 := by omega
      have hfull : (arr fun i => if i < 16 then (pfirst ns i : Int) else 0) = arr fun i => (pfirst ns i : Int) := arr_congr fun i hi => if_pos hi
      have h3 := H.out.2.2.1
      rw [hfull] at h3
      have h2 := H.out.2.1
      have H4 := Lib.hid H.out.2.2.2
      clear hfull H
      go_wp2_with (first | refine arr_ld rfl rfl (w.heap.size + 1 + 1) rfl h3 ?_ | refine arr_st rfl rfl (w.heap.size + 1) rfl rfl h2 ?_)
      (try simp only [Exit.inBlock, Exit.then])
      refine bodyPost_ret (arr_ret rfl rfl (setRow_heap _ _ _ _ _ _ h2)) rfl ?_
      exact ⟨rfl, low_setRow H4.out (Nat.le_succ _) _⟩
end Go.Proofs.YtdcpibglbanchaaDoor

set_option linter.unusedVariables false
set_option maxRecDepth 100000
namespace Go.Proofs.YtdcpibglbanchaaDoor
open Go.RowKit Go.Maps Go.ChangeMaps

/-- m numbers -/
def arrN (m : Nat) (f : Nat → Int) : Array Value := ((List.range m).map fun i => Value.int .i64 (f i)).toArray
theorem arrN_size (m : Nat) (f : Nat → Int) : (arrN m f).size = m := by simp [arrN]
theorem arrN_get (m : Nat) (f : Nat → Int) {i : Nat} (h : i < m) : (arrN m f)[i]? = some (.int .i64 (f i)) := by
  unfold arrN
  rw [List.getElem?_toArray, List.getElem?_map, List.getElem?_range h]; rfl
theorem arrN_ext {m : Nat} {cs : Array Value} {f : Nat → Int} (hs : cs.size = m) (h : ∀ i, i < m → cs[i]? = some (.int .i64 (f i))) : cs = arrN m f := by
  apply Array.ext_getElem?
  intro i
  by_cases hi : i < m
  · rw [h i hi, arrN_get m f hi]
  · rw [Array.getElem?_eq_none (by omega), Array.getElem?_eq_none (by rw [arrN_size]; omega)]
theorem arrN_set (m : Nat) (f : Nat → Int) (i : Nat) (v : Int) : (arrN m f).setIfInBounds i (.int .i64 v) = arrN m fun j => if j = i then v else f j := by
  apply arrN_ext
  · simp [arrN_size]
  · intro j hj
    rw [Array.getElem?_setIfInBounds]
    by_cases h : i = j
    · subst h; simp [arrN_size, hj]
    · rw [if_neg h, arrN_get m f hj, if_neg (fun e => h e.symm)]
theorem arrN_congr {m : Nat} {f g : Nat → Int} (h : ∀ i, i < m → f i = g i) : arrN m f = arrN m g := arrN_ext (arrN_size m f) fun i hi => by rw [arrN_get m f hi, h i hi]

/-- what the cells of a row of words hold: of each symbol how many bits, and which -/
def pwv (ns : List Nat) (j : Nat) : Int := if j % 2 = 0 then ((ns.getD (j / 2) 0 : Nat) : Int) else if ns.getD (j / 2) 0 = 0 then 0 else (pword ns (j / 2) : Int)
def codeCells (bw bm n : Nat) (L : Int) : Array Value := #[.slice (some ⟨bw, 0, none⟩) n n, .map (some bm), .int .i64 L]
/-- block g is the program's code of the lengths ns; its blocks lie in F -/
def PC (w : World) (F : Nat → Prop) (g : Nat) (ns : List Nat) : Prop :=
  ∃ bw bm k, ∃ D : DataW Unit, F g ∧ F bw ∧ F bm ∧ w.heap[g]? = some (.cells (codeCells bw bm ns.length (plong ns 15)) 122 (0, 0)) ∧ w.heap[bw]? = some (.cells (arrN (2 * ns.length) (pwv ns)) 118 (0, 0)) ∧
    w.ownsMap Tryd.prog 118 (plainElem Tryd.prog 3) bm k D ∧ MapIs D (plookTo ns ns.length)
theorem ownsMap_blk {w w' : World} {P : Program} {k : TypeId} {R : Value → Option (DataW Unit × List MemPlace)} {b n : Nat} {D : DataW Unit} (h : w.ownsMap P k R b n D) (hb : w'.heap[b]? = w.heap[b]?) : w'.ownsMap P k R b n D := by
  obtain ⟨es, cl, h1, h2⟩ := h
  exact ⟨es, cl, hb.trans h1, h2⟩
theorem PC.keep {w w' : World} {F : Nat → Prop} {g : Nat} {ns : List Nat} (h : PC w F g ns) (hs : ∀ b, F b → w'.heap[b]? = w.heap[b]?) : PC w' F g ns := by
  obtain ⟨bw, bm, k, D, f1, f2, f3, h1, h2, h3, h4⟩ := h
  exact ⟨bw, bm, k, D, f1, f2, f3, (hs _ f1).trans h1, (hs _ f2).trans h2, ownsMap_blk h3 (hs _ f3), h4⟩
theorem PC.more {w : World} {F F' : Nat → Prop} {g : Nat} {ns : List Nat} (h : PC w F g ns) (hs : ∀ b, F b → F' b) : PC w F' g ns := by
  obtain ⟨bw, bm, k, D, f1, f2, f3, h1⟩ := h
  exact ⟨bw, bm, k, D, hs _ f1, hs _ f2, hs _ f3, h1⟩

theorem word_info : (Tryd.prog.info? 118).map (fun i => (i.zero, i.size, i.bytes)) = some (some (.agg #[.int .i64 0, .int .i64 0]), 2, 16) := by kernel_rfl
theorem made_two (n : Nat) : madeCells #[.int .i64 0, .int .i64 0] (n * 2) = arrN (2 * n) fun _ => 0 := by
  apply arrN_ext
  · rw [size_madeCells, Nat.mul_comm]
  · intro i hi
    simp only [madeCells]
    rw [Array.getElem?_map, Array.getElem?_range, if_pos (by omega)]
    have h2 : i % 2 = 0 ∨ i % 2 = 1 := by omega
    rcases h2 with h2 | h2 <;> simp [h2]
theorem run_make_words (n : Nat) (hn : n ≤ 288) (W : World) : (Instr.makeSlice 119 (.int .i64 n) (.int .i64 n)).run Tryd.prog W = .ok (.slice (some ⟨W.heap.size, 0, none⟩) n n) (W.alloc (.cells (arrN (2 * n) fun _ => 0) 118)) := by
  obtain ⟨i0, hi, hz0, hz1, hz2⟩ := info_parts word_info
  have := run_make (P := Tryd.prog) W 119 118 i0 _ Tryd.underlying119 hi hz0 .i64 .i64 n n (by omega) (by omega) (by rw [hz2]; omega) (by omega)
  simp only [Int.toNat_natCast, hz1, Value.cells] at this
  rw [made_two] at this
  exact this
theorem zeroW (W : World) : (zeroValue 118).run Tryd.prog W = .ok (.agg #[.int .i64 0, .int .i64 0]) W := by kernel_rfl
theorem zeroI (W : World) : (zeroValue 3).run Tryd.prog W = .ok (.int .i64 0) W := by kernel_rfl
theorem zeroCo (W : World) : (zeroValue 122).run Tryd.prog W = .ok (.agg #[.slice none 0 0, .map none, .int .i64 0]) W := by kernel_rfl

theorem four_new (w : World) (o1 o2 o3 o4 : Obj) : ∃ w', w' = (((w.alloc o1).alloc o2).alloc o3).alloc o4 ∧ w'.heap.size = w.heap.size + 4 ∧ w'.heap[w.heap.size]? = some o1 ∧ w'.heap[w.heap.size + 1]? = some o2 ∧ w'.heap[w.heap.size + 2]? = some o3 ∧ w'.heap[w.heap.size + 3]? = some o4 ∧ Below w.heap.size w w' := by
  refine ⟨_, rfl, by simp, ?_, ?_, ?_, ?_, ?_⟩
  · exact (Below.heap_alloc _ _ _ (by simp <;> omega)).trans ((Below.heap_alloc _ _ _ (by simp <;> omega)).trans ((Below.heap_alloc _ _ _ (by simp)).trans (heap_alloc_new w o1)))
  · exact (Below.heap_alloc _ _ _ (by simp <;> omega)).trans ((Below.heap_alloc _ _ _ (by simp)).trans (by simpa using heap_alloc_new (w.alloc o1) o2))
  · exact (Below.heap_alloc _ _ _ (by simp)).trans (by simpa using heap_alloc_new ((w.alloc o1).alloc o2) o3)
  · simpa using heap_alloc_new (((w.alloc o1).alloc o2).alloc o3) o4
  · exact ((((Below.refl _ _).alloc (Nat.le_refl _) _).alloc (by simp) _).alloc (by simp; omega) _).alloc (by simp; omega) _
/-- the next word of each length, behind s symbols -/
def nextF (ns : List Nat) (s i : Nat) : Int := (pfirst ns i : Int) + if i = 0 then 0 else (((ns.take s).count i : Nat) : Int)
theorem nextF_zero (ns : List Nat) : (arr fun i => (pfirst ns i : Int)) = arr (nextF ns 0) := arr_congr fun i _ => by unfold nextF; split <;> simp
theorem nextF_succ (ns : List Nat) {s : Nat} (hs : s < ns.length) (h0 : ns.getD s 0 ≠ 0) : (arr fun j => if j = ns.getD s 0 then nextF ns s (ns.getD s 0) + 1 else nextF ns s j) = arr (nextF ns (s + 1)) := arr_congr fun i _ => by
  unfold nextF
  have h := take_count_succ ns s i hs
  by_cases e : i = ns.getD s 0
  · subst e; rw [if_pos rfl, if_neg h0, if_neg h0, h, if_pos rfl]; omega
  · rw [if_neg e, h, if_neg (show ¬ ns.getD s 0 = i from fun q => e q.symm), Nat.add_zero]
theorem nextF_skip (ns : List Nat) {s : Nat} (hs : s < ns.length) (h0 : ns.getD s 0 = 0) : arr (nextF ns s) = arr (nextF ns (s + 1)) := arr_congr fun i _ => by
  unfold nextF
  have h := take_count_succ ns s i hs
  by_cases e : i = 0
  · rw [if_pos e, if_pos e]
  · rw [h, if_neg (show ¬ ns.getD s 0 = i by omega)]; simp
theorem nextF_word (ns : List Nat) {s : Nat} (h0 : ns.getD s 0 ≠ 0) : nextF ns s (ns.getD s 0) = (pword ns s : Int) := by
  unfold nextF pword prank
  rw [if_neg h0]; omega
/-- the words of the first s symbols -/
def pwvTo (ns : List Nat) (s j : Nat) : Int := if j < 2 * s then pwv ns j else 0
theorem pwvTo_skip (ns : List Nat) {s : Nat} (h0 : ns.getD s 0 = 0) (m : Nat) : arrN m (pwvTo ns s) = arrN m (pwvTo ns (s + 1)) := arrN_congr fun j _ => by
  unfold pwvTo
  by_cases h : j < 2 * s
  · rw [if_pos h, if_pos (by omega)]
  · rw [if_neg h]
    by_cases h2 : j < 2 * (s + 1)
    · rw [if_pos h2]
      have : j / 2 = s := by omega
      unfold pwv
      rw [this, h0]; simp
    · rw [if_neg h2]
theorem pwvTo_succ (ns : List Nat) {s : Nat} (h0 : ns.getD s 0 ≠ 0) (m : Nat) : arrN m (fun j => if j = 2 * s + 1 then (pword ns s : Int) else if j = 2 * s then ((ns.getD s 0 : Nat) : Int) else pwvTo ns s j) = arrN m (pwvTo ns (s + 1)) := arrN_congr fun j _ => by
  unfold pwvTo
  by_cases h : j < 2 * s
  · rw [if_neg (by omega), if_neg (by omega), if_pos h, if_pos (by omega)]
  · rw [if_neg h]
    by_cases h1 : j = 2 * s + 1
    · rw [if_pos h1, if_pos (by omega)]
      have : j / 2 = s := by omega
      unfold pwv
      rw [this, if_neg (by omega), if_neg h0]
    · rw [if_neg h1]
      by_cases h2 : j = 2 * s
      · rw [if_pos h2, if_pos (by omega)]
        have : j / 2 = s := by omega
        unfold pwv
        rw [this, if_pos (by omega)]
      · rw [if_neg h2, if_neg (by omega)]
/-- what is laid of a code behind s symbols -/
def LaidTo (w wr : World) (bw bm g bn : Nat) (ns : List Nat) (s L : Nat) : Prop :=
  wr.heap[bw]? = some (.cells (arrN (2 * ns.length) (pwvTo ns s)) 118 (0, 0)) ∧ wr.heap[g]? = some (.cells (codeCells bw bm ns.length L) 122 (0, 0)) ∧ (∃ D : DataW Unit, wr.ownsMap Tryd.prog 118 (plainElem Tryd.prog 3) bm s D ∧ MapIs D (plookTo ns s)) ∧
    LongTo ns s L ∧ L ≤ 15 ∧ wr.heap[bn]? = some (.cells (arr (nextF ns s)) 127 (0, 0)) ∧ Below w.heap.size w wr
/-- where the statement that lays a word has come to -/
structure RegC (w8 : World) (bw bm : Nat) (old new : Array Value) (e0 e1 e2 : Obj) (listed : Array Bool) (W : World) : Prop where
  os : W.os = w8.os
  tape : W.tape = w8.tape
  output : W.output = w8.output
  size : W.heap.size = w8.heap.size
  rest : ∀ k, k ≠ bw → k ≠ bm → W.heap[k]? = w8.heap[k]?
  words : W.heap[bw]? = some (.cells (if listed[13]? = some true then new else old) 118 (0, 0))
  map : W.heap[bm]? = some (if listed[16]? = some true then e2 else if listed[14]? = some true then e1 else e0)
  order : listed[16]? = some true → listed[14]? = some true
theorem lst_ne {listed : Array Bool} {i j : Nat} (h : i ≠ j) : (listed.setIfInBounds i true)[j]? = listed[j]? := Array.getElem?_setIfInBounds_ne h
theorem lst_eq {listed : Array Bool} {i : Nat} (h : listed[i]? = some false) : (listed.setIfInBounds i true)[i]? = some true := by
  have := (Array.getElem?_eq_some_iff.1 h).1
  simp [this]
theorem RegC.skip {w8 : World} {bw bm : Nat} {old new : Array Value} {e0 e1 e2 : Obj} {listed : Array Bool} {W : World} (h : RegC w8 bw bm old new e0 e1 e2 listed W) (i : Nat) (h1 : i ≠ 13) (h2 : i ≠ 14) (h3 : i ≠ 16) : RegC w8 bw bm old new e0 e1 e2 (listed.setIfInBounds i true) W :=
  ⟨h.os, h.tape, h.output, h.size, h.rest, by rw [lst_ne h1]; exact h.words, by rw [lst_ne h2, lst_ne h3]; exact h.map, by rw [lst_ne h2, lst_ne h3]; exact h.order⟩
def GV (vs : List Value) (i : Nat) (v : Value) : Prop := v = vs.getD i undef
theorem y_fa0 (g : Nat) (W : World) : (Instr.fieldAt 122 (.pointer (some ⟨g, 0, none⟩)) 0).run Tryd.prog W = .ok (.pointer (some ⟨g, 0, none⟩)) W := by kernel_rfl
theorem y_fa1 (g : Nat) (W : World) : (Instr.fieldAt 122 (.pointer (some ⟨g, 0, none⟩)) 1).run Tryd.prog W = .ok (.pointer (some ⟨g, 1, none⟩)) W := by kernel_rfl
theorem y_ia (bw n s : Nat) (W : World) (h : s < n) : (Instr.indexAt 119 (.slice (some ⟨bw, 0, none⟩) n n) (.int .i64 s)).run Tryd.prog W = .ok (.pointer (some ⟨bw, 2 * s, none⟩)) W := by
  have hs : (sizeOf (Tryd.prog.elem 119)).run Tryd.prog W = .ok 2 W := by kernel_rfl
  rw [run_indexAt_slice W _ _ _ _ _ _ (by kernel_rfl), if_pos (by omega), hs]
  have e : (⟨bw, 0, none⟩ : Addr).add ((s : Int).toNat * 2) = ⟨bw, 2 * s, none⟩ := by
    rw [add_off']; congr 1; omega
  simp only [Result.andThen_ok, e]
theorem two_cells (W : World) (b o : Nat) (x y : Value) : W.setCells b o [x, y] = (W.setCell ⟨b, o, none⟩ x).setCell ⟨b, o + 1, none⟩ y := by
  simp [World.setCells]
theorem y_ldw (g : Nat) (N v : Nat) (W : World) (h : W.heap[g]? = some (.cells #[.int .i64 N, .int .i64 v] 118 (0, 0))) : (Instr.loadAt 118 (.pointer (some ⟨g, 0, none⟩))).run Tryd.prog W = .ok (wkey N v) W :=
  run_loadAt_mid W g 0 118 [.int .i64 N, .int .i64 v] _ (fun j u hu => by rw [Nat.zero_add, blk_cell h]; simpa using hu) Tryd.underlying118 rfl (by kernel_rfl)
theorem y_ld3 (g k : Nat) (t : TypeId) (v : Value) (W : World) (ht : (isAgg t).run Tryd.prog W = .ok false W) (h : W.cell? ⟨g, k, none⟩ = some v) : (Instr.loadAt t (.pointer (some ⟨g, k, none⟩))).run Tryd.prog W = .ok v W := by
  simp [Instr.loadAt, Instr.sureAddr, loadVar, ht, Result.andThen, h, go_sem]
set_option maxHeartbeats 2000000 in
theorem laid_is {w : World} (a : Option Addr) (n c : Nat) (q : List Int) (hn : q.length = n) (h288 : n ≤ 288) (hb : Ints .i64 w w.heap.size a q) (hin : inR q = true) (hk : kraft (nsOf q) ≤ 2 ^ 15) :
    Calls Tryd.prog 67 #[.slice a n c, .agg (arr (cntF (nsOf q)))] w fun e w' => ∃ g, e = .returned (.pointer (some ⟨g, 0, none⟩)) ∧ PC w' (fun b => w.heap.size ≤ b ∧ b < w'.heap.size) g (nsOf q) ∧ Below w.heap.size w w' := by
  subst hn
  have hmk := run_make_words q.length h288
  have hmm := @run_makeMap Tryd.prog
  have hz := zeroA
  have hz2 := zeroCo
  go_enter Tryd.func67, Tryd.ntmps67
  go_upto_region 2 with (fail)
  obtain ⟨w4, he4, hs4, h0, h1, h2, h3, hb4⟩ := four_new w (.cells (arr (cntF (nsOf q))) 127) (.cells (arrN (2 * q.length) fun _ => 0) 118) (.map #[] 0) (.cells (codeCells (w.heap.size + 1) (w.heap.size + 2) q.length 0) 122)
  have hnl : (nsOf q).length = q.length := by simp [nsOf]
  have hown : w4.ownsMap Tryd.prog 118 (plainElem (H := Unit) Tryd.prog 3) (w.heap.size + 2) 0 (.map []) := ⟨#[], 0, h2, ⟨by simp, Go.MapKept.stamped_empty 0, by simp⟩, Nat.le_refl _, rfl⟩
  unfold codeCells at he4
  simp only [show w.heap.size + 2 = w.heap.size + 1 + 1 from rfl] at he4
  rw [← he4]
  clear he4
  go_wp2_with (refine arr_ld rfl rfl w.heap.size rfl h0 ?_)
  refine (firsts_is (by omega)).mono ?_
  rintro e w5 ⟨rfl, hb5⟩
  have hs5 := hb5.size
  have ho4 := hown
  have c1 := (hb5.block _ (by omega)).trans h1
  have c3 := (hb5.block _ (by omega)).trans h3
  have ho5 := ownsMap_blk hown (hb5.block _ (by omega))
  have hw5 : Below w.heap.size w w5 := hb4.trans (hb5.mono (by omega))
  have H5 := Lib.hid (And.intro c1 (And.intro c3 (And.intro ho5 hw5)))
  clear h0 h1 h2 h3 hb4 hown c1 c3 ho5 hw5 hb5 ho4 hmk hmm hz2
  simp only [show w.heap.size + 2 = w.heap.size + 1 + 1 from rfl, show w.heap.size + 3 = w.heap.size + 1 + 1 + 1 from rfl] at H5
  have HBS := Lib.hid (show w.heap.size < w.heap.size + 1 from Nat.lt_succ_self _)
  generalize hbw : w.heap.size + 1 = bw at *
  generalize hbm : bw + 1 = bm at *
  generalize hgg : bm + 1 = g at *
  have HINT := Lib.hid hb
  clear hb
  go_wp2_with (refine arr_st rfl rfl w5.heap.size rfl rfl (heap_alloc_new _ _) ?_)
  have hset := setRow_heap (w5.alloc (.cells (arr fun _ => 0) 127)) w5.heap.size _ (arr fun i => (pfirst (nsOf q) i : Int)) _ _ (heap_alloc_new w5 (.cells (arr fun _ => 0) 127))
  have hoth := fun k (hk : k < w5.heap.size) => (setRow_other (w5.alloc (.cells (arr fun _ => 0) 127)) w5.heap.size k (arr fun i => (pfirst (nsOf q) i : Int)) (by omega)).trans (Below.heap_alloc w5 _ k hk)
  have hl6 : Below w.heap.size w ((w5.alloc (.cells (arr fun _ => 0) 127)).setRow w5.heap.size (arr fun i => (pfirst (nsOf q) i : Int))) := low_setRow (H5.out.2.2.2.alloc (by omega) _) (by omega) _
  have hsz6 : ((w5.alloc (.cells (arr fun _ => 0) 127)).setRow w5.heap.size (arr fun i => (pfirst (nsOf q) i : Int))).heap.size = w5.heap.size + 1 := by rw [size_setRow]; simp
  rw [nextF_zero] at hset hoth hl6 hsz6 ⊢
  generalize hw6 : ((w5.alloc (.cells (arr fun _ => 0) 127)).setRow w5.heap.size (arr (nextF (nsOf q) 0))) = w6 at *
  have h6 : LaidTo w w6 bw bm g w5.heap.size (nsOf q) 0 0 := ⟨(hoth _ (by omega)).trans (by rw [H5.out.1, hnl]; rfl), (hoth _ (by omega)).trans (by rw [H5.out.2.1, hnl]; rfl), ⟨.map [], ownsMap_blk H5.out.2.2.1 (hoth _ (by omega)), MapIs.congr mapIs_empty (by funext n v; rw [plookTo_zero])⟩, longTo_zero _, by omega, hset, hl6⟩
  have H6 := Lib.hid h6
  obtain ⟨bn, hbn⟩ : ∃ bn, bn = w5.heap.size := ⟨_, rfl⟩
  rw [← hbn] at H6 hs5 hsz6 ⊢
  clear hset hoth hl6 hw6 H5 hz h6
  have hgbn : g < bn := by omega
  have hwbw : w.heap.size < bw := by omega
  clear hbn hbw hs5 hs4
  go_loopw [20] (fun i wr => ∃ s L : Nat, s ≤ q.length ∧ i = .int .i64 s ∧ Hid (LaidTo w wr bw bm g bn (nsOf q) s L) ∧ bn < wr.heap.size) (fun i _ => q.length - (intOf i).toNat)
  case atStart => exact ⟨0, 0, Nat.zero_le _, rfl, H6, by omega⟩
  case round =>
    clear H6
    obtain ⟨s, L, hs, rfl, H, hbs⟩ := hrel
    by_cases hlt : s < q.length
    · obtain ⟨b, off, rfl, hbl, hc, hwf⟩ := (HINT.out.below H.out.2.2.2.2.2.2).at_ hlt
      obtain ⟨hq1, hq2⟩ := nsOf_get hin s
      obtain ⟨N, hN⟩ : ∃ N, (nsOf q).getD s 0 = N := ⟨_, rfl⟩
      rw [hN] at hq1 hq2
      rw [hq1] at hc
      clear hq1 hwf
      by_cases h0 : N = 0
      · subst h0
        have hn1 := pwvTo_skip (nsOf q) hN (2 * (nsOf q).length)
        have hn2 := plookTo_skip (nsOf q) (by omega) hN
        have hn3 := nextF_skip (nsOf q) (by omega) hN
        have HN := Lib.hid (And.intro hn1 (And.intro hn2 (And.intro hn3 hN)))
        clear hn1 hn2 hn3 hN
        go_wp2_with fail
        obtain ⟨g1, g2, ⟨D, g3, g4⟩, g5, g6, g7, g8⟩ := H.out
        obtain ⟨e1, e2, e3, e4⟩ := HN.out
        exact ⟨⟨s + 1, L, by omega, by go_num, Lib.hid ⟨by rw [← e1]; exact g1, g2, ⟨D, g3.mono (Nat.le_succ _), g4.congr e2.symm⟩, g5.skip e4, g6, by rw [← e3]; exact g7, g8⟩, hbs⟩, by simp [intOf]; omega⟩
      · have hnext := nextF_word (nsOf q) (s := s) (by omega)
        rw [hN] at hnext
        have hcn : wr.cell? ⟨bn, N, none⟩ = some (.int .i64 (pword (nsOf q) s)) := by rw [blk_cell H.out.2.2.2.2.2.1, arr_get _ (by omega), hnext]
        have hfn := blk_free H.out.2.2.2.2.2.1 N
        have hwl := pword_bound (inR_le hin) hk (s := s) (by omega) (by omega)
        rw [hN] at hwl
        have h15 := Nat.pow_le_pow_right (n := 2) (by decide) hq2
        rw [(by decide : 2 ^ 15 = 32768)] at h15
        have i0 : (0 : Int) ≤ (N : Int) := by omega
        have i1 : (N : Int) < 16 := by omega
        have i2 : ((N : Int) == 0) = false := by simp; omega
        have HNN := Lib.hid (And.intro hN hnext)
        obtain ⟨v, hv⟩ : ∃ v, pword (nsOf q) s = v := ⟨_, rfl⟩
        rw [hv] at hcn hwl
        have HV := Lib.hid hv
        have hv15 : v < 32768 := by omega
        clear hv hN hnext hwl h15
        have hz2 := zeroW
        go_upto_region 9 with (fail)
        rename_i hK
        obtain ⟨g1, g2, ⟨D, g3, g4⟩, g5, g6, g7, g8⟩ := H.out
        have hmt : bm ≠ bw ∧ bm ≠ g ∧ bm ≠ bn ∧ bw ≠ g ∧ bw ≠ bn ∧ g ≠ bn ∧ bm < bn ∧ bw < bn := by omega
        obtain ⟨w8, hw8⟩ : ∃ w8, w8 = ((wr.setCell ⟨bn, N, none⟩ (.int .i64 ((v : Int) + 1))).alloc (.cells #[.int .i64 N, .int .i64 v] 118)) := ⟨_, rfl⟩
        have hsz8 : w8.heap.size = wr.heap.size + 1 := by rw [hw8]; simp
        have hlow : ∀ k, k ≠ bn → k < wr.heap.size → w8.heap[k]? = wr.heap[k]? := fun k h1 h2 => by
          rw [hw8, Below.heap_alloc _ _ _ (by simpa using h2)]; exact Below.heap_setCell _ ⟨bn, N, none⟩ _ _ h1
        have hn8 : w8.heap[bn]? = some (.cells (arr (nextF (nsOf q) (s + 1))) 127 (0, 0)) := by
          rw [hw8, Below.heap_alloc _ _ _ (by simpa using hbs), blk_set g7 N, arr_set]
          have := nextF_succ (nsOf q) (s := s) (by omega) (by rw [HNN.out.1]; exact h0)
          rw [HNN.out.1, HNN.out.2, HV.out] at this
          rw [this]
        have ht8 : w8.heap[wr.heap.size]? = some (.cells #[.int .i64 N, .int .i64 v] 118 (0, 0)) := by
          rw [hw8]; simpa using heap_alloc_new (wr.setCell ⟨bn, N, none⟩ (.int .i64 ((v : Int) + 1))) (.cells #[.int .i64 N, .int .i64 v] 118)
        have hl8 : Below w.heap.size w w8 := by rw [hw8]; exact (g8.setCell (p := ⟨bn, N, none⟩) (by show w.heap.size ≤ bn; omega) _).alloc (by have := g8.size; simp; omega) _
        rw [← hw8]
        clear hw8
        have e1 := hlow bw hmt.2.2.2.2.1 (by omega)
        have e2 := hlow bm hmt.2.2.1 (by omega)
        have e3 := hlow g hmt.2.2.2.2.2.1 (by omega)
        have hfresh : Maps.has D (kl N v) = false := by
          have h1 := (g4 N v (by omega) (by omega)).1
          rw [h1]
          cases hp : plookTo (nsOf q) s N v with
          | none => rfl
          | some t =>
            exfalso
            obtain ⟨p1, p2, p3, p4, p5⟩ := (plookTo_iff _ _ _ _ _).1 hp
            have := pword_ne p3 (show s < (nsOf q).length by omega) (p4.trans HNN.out.1.symm) (p5.trans HV.out.symm)
            omega
        obtain ⟨es, clock, hm0, hE, hS, hO⟩ := owns_new (val := .int .i64 (s : Int)) (d := .lit (.int .i64 (s : Int))) (ps := []) word_keys Tryd.underlying120 zeroI (ownsMap_blk g3 e2) (by unfold maxLen; omega) (wkey_is (n := N) (v := v) (by omega) (by omega)) hfresh (plainElem_int Tryd.underlying3 (wf_nat (by omega)))
        refine wp_region_listed (C := RegC w8 bw bm (arrN (2 * (nsOf q).length) (pwvTo (nsOf q) s)) (arrN (2 * (nsOf q).length) (pwvTo (nsOf q) (s + 1))) (.map es clock) (.map (es.push ⟨wkey N v, .int .i64 0, clock⟩) (clock + 1)) (.map (es.push ⟨wkey N v, .int .i64 (s : Int), clock⟩) (clock + 1)))
          (G := GV [.pointer (some ⟨g, 0, none⟩), .pointer (some ⟨g, 0, none⟩), .pointer (some ⟨g, 0, none⟩), .slice (some ⟨bw, 0, none⟩) q.length q.length, .int .i64 s, .pointer (some ⟨g, 0, none⟩), .pointer (some ⟨g, 0, none⟩), .pointer (some ⟨g, 1, none⟩), .map (some bm), wkey N v, wkey N v, .int .i64 s, .pointer (some ⟨bw, 2 * s, none⟩), undef, .tuple #[.int .i64 0, goInt clock], goInt clock, undef])
          (by kernel_rfl) (ordL_spec (by kernel_rfl)) (dstB_spec (by kernel_rfl)) (inB_spec (by kernel_rfl)) ⟨rfl, rfl, rfl, rfl, fun _ _ _ => rfl, (e1.trans g1), hm0, fun h => absurd h (by decide)⟩ ?step ?fin
        case step =>
          intro i o a1 listed W ho hli hC hdep hsame
          have hlt17 : i < 17 := lt_of_some ho
          have hg : W.heap[g]? = some (.cells (codeCells bw bm (nsOf q).length L) 122 (0, 0)) := (hC.rest g (by omega) (by omega)).trans (e3.trans g2)
          have ht : W.heap[wr.heap.size]? = some (.cells #[.int .i64 N, .int .i64 v] 118 (0, 0)) := (hC.rest _ (by omega) (by omega)).trans ht8
          match i, hlt17, ho with
          | 0, _, ho =>
            obtain rfl := Option.some.inj ho
            exact step_val ho rfl (y_move rfl (hsame 5 (notB_spec (by kernel_rfl)))) rfl (hC.skip 0 (by decide) (by decide) (by decide))
          | 1, _, ho =>
            obtain rfl := Option.some.inj ho
            exact step_val ho rfl (y_nil rfl ((hdep ⟨0, .data⟩ (by simp) rfl).2 _ _ rfl rfl)) rfl (hC.skip 1 (by decide) (by decide) (by decide))
          | 2, _, ho =>
            obtain rfl := Option.some.inj ho
            exact step_val ho rfl (y_field rfl ((hdep ⟨1, .data⟩ (by simp) rfl).2 _ _ rfl rfl) (y_fa0 g W)) rfl (hC.skip 2 (by decide) (by decide) (by decide))
          | 3, _, ho =>
            obtain rfl := Option.some.inj ho
            exact step_val ho rfl (y_load rfl ((hdep ⟨2, .data⟩ (by simp) rfl).2 _ _ rfl rfl) (y_ld3 g 0 _ (.slice (some ⟨bw, 0, none⟩) q.length q.length) W (by kernel_rfl) (by rw [blk_cell hg, ← hnl]; rfl))) rfl (hC.skip 3 (by decide) (by decide) (by decide))
          | 4, _, ho =>
            obtain rfl := Option.some.inj ho
            exact step_val ho rfl (y_move rfl (hsame 7 (notB_spec (by kernel_rfl)))) rfl (hC.skip 4 (by decide) (by decide) (by decide))
          | 5, _, ho =>
            obtain rfl := Option.some.inj ho
            exact step_val ho rfl (y_move rfl (hsame 5 (notB_spec (by kernel_rfl)))) rfl (hC.skip 5 (by decide) (by decide) (by decide))
          | 6, _, ho =>
            obtain rfl := Option.some.inj ho
            exact step_val ho rfl (y_nil rfl ((hdep ⟨5, .data⟩ (by simp) rfl).2 _ _ rfl rfl)) rfl (hC.skip 6 (by decide) (by decide) (by decide))
          | 7, _, ho =>
            obtain rfl := Option.some.inj ho
            exact step_val ho rfl (y_field rfl ((hdep ⟨6, .data⟩ (by simp) rfl).2 _ _ rfl rfl) (y_fa1 g W)) rfl (hC.skip 7 (by decide) (by decide) (by decide))
          | 8, _, ho =>
            obtain rfl := Option.some.inj ho
            exact step_val ho rfl (y_load rfl ((hdep ⟨7, .data⟩ (by simp) rfl).2 _ _ rfl rfl) (y_ld3 g 1 _ (.map (some bm)) W (by kernel_rfl) (by rw [blk_cell hg]; rfl))) rfl (hC.skip 8 (by decide) (by decide) (by decide))
          | 9, _, ho =>
            obtain rfl := Option.some.inj ho
            exact step_val ho rfl (y_load rfl (hsame 9 (notB_spec (by kernel_rfl))) (y_ldw _ N v W ht)) rfl (hC.skip 9 (by decide) (by decide) (by decide))
          | 10, _, ho =>
            obtain rfl := Option.some.inj ho
            exact step_val ho rfl (y_load rfl (hsame 9 (notB_spec (by kernel_rfl))) (y_ldw _ N v W ht)) rfl (hC.skip 10 (by decide) (by decide) (by decide))
          | 11, _, ho =>
            obtain rfl := Option.some.inj ho
            exact step_val ho rfl (y_move rfl (hsame 7 (notB_spec (by kernel_rfl)))) rfl (hC.skip 11 (by decide) (by decide) (by decide))
          | 12, _, ho =>
            obtain rfl := Option.some.inj ho
            exact step_val ho rfl (y_index rfl ((hdep ⟨3, .data⟩ (by simp) rfl).2 _ _ rfl rfl) ((hdep ⟨4, .data⟩ (by simp) rfl).2 _ _ rfl rfl) (y_ia bw q.length s W hlt)) rfl (hC.skip 12 (by decide) (by decide) (by decide))
          | 13, _, ho =>
            obtain rfl := Option.some.inj ho
            have hwd := hC.words
            rw [if_neg (by rw [hli]; decide)] at hwd
            have hthere : W.there bw (2 * s) 2 := fun j hj => ⟨by rw [blk_cell hwd, arrN_get _ _ (by omega)]; rfl, blk_free hwd _⟩
            have hr := run_storeAt_mid (P := Tryd.prog) W bw (2 * s) 118 #[.int .i64 N, .int .i64 v] hthere (by kernel_rfl) (by simp [Value.oneCell'])
            rw [two_cells] at hr
            refine step_none ho rfl rfl (y_store rfl ((hdep ⟨12, .data⟩ (by simp) rfl).2 _ _ rfl rfl) ((hdep ⟨10, .data⟩ (by simp) rfl).2 _ _ rfl rfl) hr) ?_
            have hoth : ∀ k, k ≠ bw → ((W.setCell ⟨bw, 2 * s, none⟩ (.int .i64 N)).setCell ⟨bw, 2 * s + 1, none⟩ (.int .i64 v)).heap[k]? = W.heap[k]? := fun k hk => (Below.heap_setCell _ ⟨bw, 2 * s + 1, none⟩ _ k hk).trans (Below.heap_setCell _ ⟨bw, 2 * s, none⟩ _ k hk)
            refine ⟨hC.os, hC.tape, hC.output, by simpa [World.setCell] using hC.size, fun k h1 h2 => (hoth k h1).trans (hC.rest k h1 h2), ?_, ?_, ?_⟩
            · rw [lst_eq hli, if_pos rfl, blk_set (blk_set hwd (2 * s) (.int .i64 N)) (2 * s + 1) (.int .i64 v), arrN_set, arrN_set]
              have := pwvTo_succ (nsOf q) (s := s) (by rw [HNN.out.1]; exact h0) (2 * (nsOf q).length)
              rw [HNN.out.1, HV.out] at this
              rw [this]
            · rw [lst_ne (by decide), lst_ne (by decide), hoth bm (by omega)]; exact hC.map
            · rw [lst_ne (by decide), lst_ne (by decide)]; exact hC.order
          | 14, _, ho =>
            obtain rfl := Option.some.inj ho
            have hmp := hC.map
            have h16 : ¬ listed[16]? = some true := fun h => by have := hC.order h; rw [hli] at this; cases this
            rw [if_neg h16, if_neg (by rw [hli]; decide)] at hmp
            refine step_val ho rfl (y_entry rfl ((hdep ⟨8, .data⟩ (by simp) rfl).2 _ _ rfl rfl) ((hdep ⟨9, .data⟩ (by simp) rfl).2 _ _ rfl rfl) (hE W hmp)) rfl ?_
            refine ⟨hC.os, hC.tape, hC.output, by simpa [setBlock] using hC.size, fun k h1 h2 => (heap_setBlock_other hmp _ h2).trans (hC.rest k h1 h2), ?_, ?_, ?_⟩
            · rw [lst_ne (by decide), heap_setBlock_other hmp _ hmt.1.symm]; exact hC.words
            · rw [lst_ne (by decide), if_neg h16, lst_eq hli, if_pos rfl]; exact heap_setBlock_same hmp _
            · intro _; exact lst_eq hli
          | 15, _, ho =>
            obtain rfl := Option.some.inj ho
            exact step_val ho rfl (y_extract rfl ((hdep ⟨14, .data⟩ (by simp) rfl).2 _ _ rfl rfl) (fun u => by kernel_rfl)) rfl (hC.skip 15 (by decide) (by decide) (by decide))
          | 16, _, ho =>
            obtain rfl := Option.some.inj ho
            have hmp := hC.map
            rw [if_neg (by rw [hli]; decide), if_pos (hdep ⟨14, .chain⟩ (by simp) rfl).1] at hmp
            refine step_none ho rfl rfl (y_put rfl ((hdep ⟨8, .data⟩ (by simp) rfl).2 _ _ rfl rfl) ((hdep ⟨15, .data⟩ (by simp) rfl).2 _ _ rfl rfl) ((hdep ⟨11, .data⟩ (by simp) rfl).2 _ _ rfl rfl) (hS W hmp)) ?_
            refine ⟨hC.os, hC.tape, hC.output, by simpa [setBlock] using hC.size, fun k h1 h2 => (heap_setBlock_other hmp _ h2).trans (hC.rest k h1 h2), ?_, ?_, ?_⟩
            · rw [lst_ne (by decide), heap_setBlock_other hmp _ hmt.1.symm]; exact hC.words
            · rw [lst_eq hli, if_pos rfl]; exact heap_setBlock_same hmp _
            · intro _; rw [lst_ne (by decide)]; exact (hdep ⟨14, .chain⟩ (by simp) rfl).1
          | n + 17, h, _ => exact absurd h (by omega)
        case fin =>
          intro a1 listed w9 hall hC hgood hsame hsize hdef
          refine hK _ _ ?_
          have hact := act_of_same [0, 1, 2, 3, 4, 5, 6, 7, 8, 9, 10, 11, 12, 13, 14, 15, 16, 17, 18, 19, 20, 21, 22, 23, 24, 25, 26, 27, 28, 29, 30, 31, 32, 33, 34, 35, 36, 37, 38, 39, 40, 41, 42, 43, 44, 45, 46, 47, 48, 49, 50, 51, 52, 53, 54, 55, 56, 57, 58, 59, 60, 61, 62] (fun t => decide (37 ≤ t ∧ t ≤ 51)) (by kernel_rfl) (fun t ht => hsame t (wrB_spec (wr := fun t => decide (37 ≤ t ∧ t ≤ 51)) (by kernel_rfl) ht)) hsize hdef
          generalize a1.eval = f at hact
          simp only [List.map_cons, List.map_nil] at hact
          simp [Act.eval] at hact
          have n1 := hC.words
          rw [if_pos (hall 13 (by decide))] at n1
          have n2 := hC.map
          rw [if_pos (hall 16 (by decide))] at n2
          have n3 := hO w9 n2
          have n4 := (hC.rest g (by omega) (by omega)).trans (e3.trans g2)
          have n5 := (hC.rest bn (by omega) (by omega)).trans hn8
          have n6 : Below w.heap.size w w9 := ⟨hC.os.trans hl8.os, hC.tape.trans hl8.tape, hC.output.trans hl8.output, by rw [hC.size]; exact hl8.size, fun k hk => (hC.rest k (by omega) (by omega)).trans (hl8.block k hk)⟩
          have n7 := g4.put g3.isMap (n := N) (v := v) (s := s) (by omega) (by omega)
          have n8 := hC.size
          have hmf : (fun m u => if m = N ∧ u = v then some s else plookTo (nsOf q) s m u) = plookTo (nsOf q) (s + 1) := by
            funext m u
            rw [plookTo_succ (nsOf q) (show s < (nsOf q).length by omega), HNN.out.1, HV.out]
            by_cases h : m = N ∧ u = v
            · rw [if_pos h, if_pos ⟨by omega, h⟩]
            · rw [if_neg h, if_neg (fun q => h q.2)]
          have n9 := n7.congr hmf
          have n10 := g5.succ
          rw [HNN.out.1] at n10
          have c2 : w9.cell? ⟨g, 2, none⟩ = some (.int .i64 L) := by rw [blk_cell n4]; rfl
          have f2 := blk_free n4 2
          have n11 := blk_set n4 2 (.int .i64 ((max L N : Nat) : Int))
          have hmax : max (L : Int) (N : Int) = ((max L N : Nat) : Int) := by omega
          have HALL := Lib.hid (And.intro n1 (And.intro n3 (And.intro n4 (And.intro n5 (And.intro n6 (And.intro n8 (And.intro n9 (And.intro n10 (And.intro n11 hmax)))))))))
          clear n1 n2 n3 n4 n5 n6 n7 n8 n9 n10 n11 hmf hmax hC hgood hsame hsize hdef hall hS hE hO hm0 g1 g2 g3 g4 g5 g7 g8 hfresh e1 e2 e3 hl8 ht8 hn8 hlow H
          rw [hact]
          clear hact
          go_wp2_with fail
          have hLN : (if L < N then (N : Int) else (L : Int)) = ((max L N : Nat) : Int) := by split <;> omega
          rw [hLN]
          obtain ⟨n1, n3, n4, n5, n6, n8, n9, n10, n11, hmax⟩ := HALL.out
          have hk2 : ∀ k, k ≠ g → (w9.setCell ⟨g, 2, none⟩ (.int .i64 ((max L N : Nat) : Int))).heap[k]? = w9.heap[k]? := fun k hk => Below.heap_setCell _ ⟨g, 2, none⟩ _ k hk
          refine ⟨⟨s + 1, max L N, by omega, by go_num, Lib.hid ⟨(hk2 bw (by omega)).trans n1, n11, ⟨_, ownsMap_blk n3 (hk2 bm (by omega)), n9⟩, n10, by omega, (hk2 bn (by omega)).trans n5, n6.setCell (p := ⟨g, 2, none⟩) (by show w.heap.size ≤ g; omega) _⟩, by simp [World.setCell]; omega⟩, by simp [intOf]; omega⟩
    · obtain rfl : s = q.length := by omega
      go_wp2_with fail
      go_ret
      obtain ⟨g1, g2, ⟨D, g3, g4⟩, g5, g6, g7, g8⟩ := H.out
      rw [← hnl] at g4 g5 g1
      have hL := longTo_all (inR_le hin) g5
      have hw : arrN (2 * (nsOf q).length) (pwvTo (nsOf q) (nsOf q).length) = arrN (2 * (nsOf q).length) (pwv (nsOf q)) := arrN_congr fun i hi => by unfold pwvTo; rw [if_pos hi]
      rw [hw] at g1
      rw [hL] at g2
      exact ⟨g, rfl, ⟨bw, bm, _, D, ⟨by omega, by omega⟩, ⟨by omega, by omega⟩, ⟨by omega, by omega⟩, g2, g1, g3, g4⟩, g8⟩
end Go.Proofs.YtdcpibglbanchaaDoor

set_option linter.unusedVariables false
set_option maxRecDepth 100000
namespace Go.Proofs.YtdcpibglbanchaaDoor
open Go.RowKit Go.Maps Go.ChangeMaps

theorem Ints.more {k : IntKind} {w : World} {B B' : Nat} {a : Option Addr} {l : List Int} (h : Ints k w B a l) (hB : B ≤ B') : Ints k w B' a l :=
  ⟨h.1, fun hn => by
    obtain ⟨b, off, e, hlt, hc⟩ := h.2 hn
    exact ⟨b, off, e, Nat.lt_of_lt_of_le hlt hB, hc⟩⟩
theorem cntF_succ (q : List Int) {k : Nat} (hk : k < q.length) {X : Nat} (hX : (q.getD k 0).toNat = X) : (arr fun j => if j = X then cntF (nsOf (q.take k)) X + 1 else cntF (nsOf (q.take k)) j) = arr (cntF (nsOf (q.take (k + 1)))) := arr_congr fun j _ => by
  have e : q.take (k + 1) = q.take k ++ [q.getD k 0] := by rw [List.take_succ_eq_append_getElem hk, List.getD_eq_getElem?_getD, List.getElem?_eq_getElem hk]; rfl
  unfold cntF pcnt
  rw [e]
  simp only [nsOf, List.map_append, List.map_cons, List.map_nil, List.count_append, List.count_cons, List.count_nil, hX]
  by_cases h : j = X
  · subst h; simp
  · have h' : ¬ X = j := fun e => h e.symm
    simp [h, h']
theorem allN_cnt (ns : List Nat) : allN ns = ns.length - pcnt ns 0 := by
  unfold allN pcnt
  induction ns with
  | nil => rfl
  | cons x ns ih =>
    have := List.count_le_length (a := 0) (l := ns)
    by_cases h : x = 0
    · subst h; simp; omega
    · simp [h]; omega
theorem inR_bad {q : List Int} {k : Nat} (hk : k < q.length) (h : ¬ (0 ≤ q.getD k 0 ∧ q.getD k 0 ≤ 15)) : inR q = false := by
  cases hr : inR q with
  | false => rfl
  | true =>
    exfalso
    rw [inR, List.all_eq_true] at hr
    have := hr (q.getD k 0) (by rw [List.getD_eq_getElem?_getD, List.getElem?_eq_getElem hk]; exact List.getElem_mem hk)
    simp only [decide_eq_true_eq] at this
    exact h this
/-- what New answers -/
def Newly (w : World) (q : List Int) (lone : Bool) (e : Ending) (w' : World) : Prop :=
  Below w.heap.size w w' ∧ ((errN q lone ≠ 0 ∧ e = .returned (.tuple #[.pointer none, .int .i64 (errN q lone)])) ∨ (errN q lone = 0 ∧ ∃ g, e = .returned (.tuple #[.pointer (some ⟨g, 0, none⟩), .int .i64 0]) ∧ PC w' (fun b => w.heap.size ≤ b ∧ b < w'.heap.size) g (nsOf q)))
set_option maxHeartbeats 2000000 in
theorem new_is {w : World} (a : Option Addr) (n c : Nat) (q : List Int) (hn : q.length = n) (hm : n ≤ 140737488355328) (hb : Ints .i64 w w.heap.size a q) (lone : Bool) :
    Calls Tryd.prog 52 #[.slice a n c, .bool lone] w (Newly w q lone) := by
  subst hn
  have hz := zeroA
  by_cases hlen : 288 < q.length
  · have he : errN q lone = 1 := by unfold errN; rw [if_pos hlen]
    have HE := Lib.hid he; clear he hb
    go_enter Tryd.func52, Tryd.ntmps52
    go_wp2_with fail
    go_ret2
    exact ⟨Below.refl _ _, .inl ⟨by rw [HE.out]; decide, by rw [HE.out]; rfl⟩⟩
  · have hz0 : (arr fun _ => 0) = arr (cntF (nsOf [])) := arr_congr fun i _ => by simp [cntF, nsOf, pcnt]
    have hnew := heap_alloc_new w (.cells (arr fun _ => 0) 127)
    rw [hz0] at hnew
    have HN := Lib.hid hnew
    have hbel : Below w.heap.size w (w.alloc (.cells (arr fun _ => 0) 127)) := (Below.refl _ _).alloc (Nat.le_refl _) _
    rw [hz0] at hbel
    have HB := Lib.hid hbel
    have hz' : ∀ W, (zeroValue 127).run Tryd.prog W = .ok (.agg (arr (cntF (nsOf [])))) W := fun W => by rw [← hz0]; exact hz W
    clear hz0 hnew hbel hz
    go_enter Tryd.func52, Tryd.ntmps52
    go_wp2_with fail
    generalize (w.alloc (.cells (arr (cntF (nsOf []))) 127)) = w1 at *
    clear hz'
    go_loopw [14] (fun i wr => ∃ k : Nat, k ≤ q.length ∧ i = .int .i64 k ∧ Hid (inR (q.take k) = true ∧ wr.heap[w.heap.size]? = some (.cells (arr (cntF (nsOf (q.take k)))) 127 (0, 0)) ∧ Below w.heap.size w wr)) (fun i _ => q.length - (intOf i).toNat)
    case atStart => exact ⟨0, Nat.zero_le _, rfl, Lib.hid ⟨rfl, HN.out, HB.out⟩⟩
    case round =>
      obtain ⟨k, hk, rfl, H⟩ := hrel
      by_cases hlt : k < q.length
      · obtain ⟨b, off, rfl, hbl, hc, hwf⟩ := (hb.below H.out.2.2).at_ hlt
        by_cases hin : 0 ≤ q.getD k 0 ∧ q.getD k 0 ≤ 15
        · obtain ⟨X, hX⟩ := Int.eq_ofNat_of_zero_le hin.1
          have hX15 : X ≤ 15 := by omega
          have hcs := cntF_succ q hlt (X := X) (by omega)
          have hI : inR (q.take (k + 1)) = true := by rw [(take_facts q hlt).2.2.2, H.out.1]; simpa using hin
          have hc2 : wr.cell? ⟨w.heap.size, X, none⟩ = some (.int .i64 (pcnt (nsOf (q.take k)) X)) := by rw [blk_cell H.out.2.1]; exact arr_get _ (by omega)
          have hf2 := blk_free H.out.2.1 X
          have hcl : pcnt (nsOf (q.take k)) X ≤ k := Nat.le_trans (pcnt_le _ _) (by simp [nsOf]; omega)
          have hset := blk_set H.out.2.1 X (.int .i64 ((pcnt (nsOf (q.take k)) X : Int) + 1))
          rw [arr_set, show (pcnt (nsOf (q.take k)) X : Int) = cntF (nsOf (q.take k)) X from rfl, hcs, show cntF (nsOf (q.take k)) X = (pcnt (nsOf (q.take k)) X : Int) from rfl] at hset
          rw [hX] at hc
          have HS := Lib.hid (And.intro hset hI)
          clear hset hI hcs hwf hin hX
          generalize pcnt (nsOf (q.take k)) X = C at *
          have n1 : ¬ ((X : Int) < 0) := by omega
          have n2 : ¬ ((15 : Int) < X) := by omega
          have n3 : (X : Int) < 16 := by omega
          have n4 : (0 : Int) ≤ X := by omega
          go_wp2_with fail
          exact ⟨⟨k + 1, by omega, by go_num, Lib.hid ⟨HS.out.2, HS.out.1, H.out.2.2.setCell (p := ⟨w.heap.size, X, none⟩) (Nat.le_refl _) _⟩⟩, by simp [intOf]; omega⟩
        · have he : errN q lone = 1 := by unfold errN; rw [if_neg hlen, inR_bad hlt hin]; rfl
          have HE := Lib.hid he
          clear he hwf
          generalize q.getD k 0 = x at *
          by_cases hneg : x < 0
          · go_wp2_with fail
            go_ret2
            exact ⟨H.out.2.2, .inl ⟨by rw [HE.out]; decide, by rw [HE.out]; rfl⟩⟩
          · have hpos : (15 : Int) < x := by omega
            go_wp2_with fail
            go_ret2
            exact ⟨H.out.2.2, .inl ⟨by rw [HE.out]; decide, by rw [HE.out]; rfl⟩⟩
      · obtain rfl : k = q.length := by omega
        rw [List.take_length] at H
        have hnl : (nsOf q).length = q.length := by simp [nsOf]
        have hold := H.out.2.1
        have hall := inR_le H.out.1
        have hok : okN (nsOf q) lone = (decide (kraft (nsOf q) = 32768) || lone && (decide ((nsOf q).length - pcnt (nsOf q) 0 = 0) || decide ((nsOf q).length - pcnt (nsOf q) 0 = 1) && decide (pcnt (nsOf q) 1 = 1))) := by unfold okN; rw [allN_cnt]; rfl
        cases hfull : decide (kraft (nsOf q) = 32768) with
        | true =>
          have hokT : okN (nsOf q) lone = true := by rw [hok, hfull]; rfl
          go_wp2_with (refine arr_ld rfl rfl w.heap.size rfl hold ?_)
          refine (isFull_is (by omega) hall).mono ?_
          rw [hfull]
          rintro e w2 ⟨rfl, hb2⟩
          have hold2 := (hb2.block _ (blk_lt hold)).trans hold
          have hw2 : Below w.heap.size w w2 := below_next H.out.2.2 (Nat.le_refl _) hb2
          have hk : kraft (nsOf q) ≤ 2 ^ 15 := okN_kraft hokT
          have he : errN q lone = 0 := by unfold errN; rw [if_neg hlen, if_pos H.out.1, if_pos hokT]
          go_wp2_with (refine arr_ld rfl rfl w.heap.size rfl hold2 ?_)
          refine (laid_is a q.length c q rfl (by omega) (Ints.more (hb.below (hw2)) (by have := (hw2).size; omega)) H.out.1 hk).mono ?_
          rintro e w3 ⟨g, rfl, hpc, hbl⟩
          have HE := Lib.hid he
          clear he
          go_wp2_with fail
          go_ret2
          exact ⟨below_next (hw2) (Nat.le_refl _) hbl, .inr ⟨HE.out, g, rfl, hpc.more fun b hb => ⟨Nat.le_trans ((hw2).size) hb.1, hb.2⟩⟩⟩
        | false =>
          cases lone with
          | false =>
            have hokF : okN (nsOf q) false = false := by rw [hok, hfull]; rfl
            go_wp2_with (refine arr_ld rfl rfl w.heap.size rfl hold ?_)
            refine (isFull_is (by omega) hall).mono ?_
            rw [hfull]
            rintro e w2 ⟨rfl, hb2⟩
            have hw2 : Below w.heap.size w w2 := below_next H.out.2.2 (Nat.le_refl _) hb2
            have he : errN q false = 5 := by unfold errN; rw [if_neg hlen, if_pos H.out.1, if_neg (by rw [hokF]; decide)]
            have HE := Lib.hid he
            clear he
            go_wp2_with fail
            go_ret2
            exact ⟨(hw2), .inl ⟨by rw [HE.out]; decide, by rw [HE.out]; rfl⟩⟩
          | true =>
            rw [hfull, Bool.false_or, Bool.true_and] at hok
            go_wp2_with (refine arr_ld rfl rfl w.heap.size rfl hold ?_)
            refine (isFull_is (by omega) hall).mono ?_
            rw [hfull]
            rintro e w2 ⟨rfl, hb2⟩
            have hold2 := (hb2.block _ (blk_lt hold)).trans hold
            have hw2 : Below w.heap.size w w2 := below_next H.out.2.2 (Nat.le_refl _) hb2
            have HLL := Lib.hid hnl
            go_wp2_with (refine arr_ldg rfl rfl w.heap.size rfl hold2 ?_)
            have hlone := isLone_is (w := w2) (ns := nsOf q) (by omega)
            rw [← hok, hnl] at hlone
            refine hlone.mono ?_
            rintro e w3 ⟨rfl, hb3⟩
            have hold3 := (hb3.block _ (blk_lt hold2)).trans hold2
            have hw3 : Below w.heap.size w w3 := below_next hw2 (Nat.le_refl _) hb3
            clear hlone hok
            cases hokb : okN (nsOf q) true with
            | true =>
              have hokT := hokb
              have hk : kraft (nsOf q) ≤ 2 ^ 15 := okN_kraft hokT
              have he : errN q true = 0 := by unfold errN; rw [if_neg hlen, if_pos H.out.1, if_pos hokT]
              go_wp2_with (refine arr_ld rfl rfl w.heap.size rfl hold3 ?_)
              refine (laid_is a q.length c q rfl (by omega) (Ints.more (hb.below (hw3)) (by have := (hw3).size; omega)) H.out.1 hk).mono ?_
              rintro e w4 ⟨g, rfl, hpc, hbl⟩
              have HE := Lib.hid he
              clear he
              go_wp2_with fail
              go_ret2
              exact ⟨below_next (hw3) (Nat.le_refl _) hbl, .inr ⟨HE.out, g, rfl, hpc.more fun b hb => ⟨Nat.le_trans ((hw3).size) hb.1, hb.2⟩⟩⟩
            | false =>
              have hokF := hokb
              have he : errN q true = 5 := by unfold errN; rw [if_neg hlen, if_pos H.out.1, if_neg (by rw [hokF]; decide)]
              have HE := Lib.hid he
              clear he
              go_wp2_with fail
              go_ret2
              exact ⟨(hw3), .inl ⟨by rw [HE.out]; decide, by rw [HE.out]; rfl⟩⟩
end Go.Proofs.YtdcpibglbanchaaDoor

set_option linter.unusedVariables false
set_option maxRecDepth 100000
namespace Go.Proofs.YtdcpibglbanchaaDoor
open Go.RowKit Go.Maps Go.ChangeMaps

theorem look_is {W : World} {bm k : Nat} {D : DataW Unit} {f : Nat → Nat → Option Nat} (hom : W.ownsMap Tryd.prog 118 (plainElem Tryd.prog 3) bm k D) (hm : MapIs D f) {n v : Nat} (hn : n < 9223372036854775808) (hv : v < 9223372036854775808) :
    (Instr.lookup 120 (.map (some bm)) (wkey n v) true).run Tryd.prog W = .ok (.tuple #[.int .i64 (((f n v).getD 0 : Nat) : Int), .bool (f n v).isSome]) W := by
  obtain ⟨h1, h2⟩ := hm n v hn hv
  obtain ⟨cv, ps, hlk, hcv⟩ := hom.look_ok word_law Tryd.underlying120 (zeroI W) (plainElem_int Tryd.underlying3 (by decide : (Lit.int .i64 0).wf = true)) (wkey_is hn hv)
  obtain ⟨c, rfl, hc, _⟩ := plainElem_int_inv Tryd.underlying3 hcv
  have hc := congrArg Prod.fst hc
  rw [hlk, h1]
  cases hp : f n v with
  | none =>
    rw [hp] at h1
    have h3 := Maps.atKey_of_not_has (k := kl n v) (D := D) h1 (.lit (.int .i64 0))
    rw [h3] at hc
    injection hc with hc
    injection hc with _ hc
    rw [← hc]; rfl
  | some s =>
    have h3 := h2 s hp
    rw [h3] at hc
    injection hc with hc
    injection hc with _ hc
    rw [← hc]; rfl
theorem or_i64 (X V : Nat) (i : Nat) (hv : V < 2 ^ i) (h : 2 ^ i * X + V < 9223372036854775808) : bits .or .i64 ((2 ^ i * X : Nat) : Int) (V : Int) = ((2 ^ i * X + V : Nat) : Int) := by
  have h1 : (BitVec.ofInt 64 (V : Int)).toNat = V := by rw [BitVec.ofInt_natCast, BitVec.toNat_ofNat]; exact Nat.mod_eq_of_lt (by omega)
  have h2 : (BitVec.ofInt 64 ((2 ^ i * X : Nat) : Int)).toNat = 2 ^ i * X := by rw [BitVec.ofInt_natCast, BitVec.toNat_ofNat]; exact Nat.mod_eq_of_lt (by omega)
  show IntKind.i64.wrap (((BitVec.ofInt 64 ((2 ^ i * X : Nat) : Int) ||| BitVec.ofInt 64 (V : Int)).toNat : Nat) : Int) = _
  rw [BitVec.toNat_or, h1, h2, ← Nat.two_pow_add_eq_or_of_lt hv, IntWalk.i64_in] <;> omega
theorem or_bit1 (u : Nat) (b : Int) (hu : u < 32768) (hb : 0 ≤ b ∧ b ≤ 1) : bits .or .i64 ((u : Int) * 2) b = 2 * (u : Int) + b := by
  obtain ⟨V, rfl⟩ := Int.eq_ofNat_of_zero_le hb.1
  have := or_i64 u V 1 (by omega) (by omega)
  rw [show ((2 ^ 1 * u : Nat) : Int) = (u : Int) * 2 by omega] at this
  rw [this]; omega
theorem nextNil (r : Option Addr) (w : World) : Calls Tryd.prog 47 #[.pointer none, .pointer r] w fun e w' => e = .returned (.tuple #[.int .i64 0, .int .i64 1]) ∧ w = w' := by
  go_enter Tryd.func47, Tryd.ntmps47
  go_wp2_with fail
  go_ret2
  exact ⟨rfl, rfl⟩
theorem nextNone (g : Nat) (w : World) : Calls Tryd.prog 47 #[.pointer (some ⟨g, 0, none⟩), .pointer none] w fun e w' => e = .returned (.tuple #[.int .i64 0, .int .i64 1]) ∧ w = w' := by
  go_enter Tryd.func47, Tryd.ntmps47
  go_wp2_with fail
  go_ret2
  exact ⟨rfl, rfl⟩
set_option maxHeartbeats 2000000 in
theorem next_is {w : World} {F : Nat → Prop} {g gr : Nat} {ns : List Nat} {l : List Int} {p : Nat} (hF : ∀ b, F b → b < w.heap.size ∧ b ≠ gr) (h : PC w F g ns) (hr : Rdr 94 w gr l p) :
    Calls Tryd.prog 47 #[.pointer (some ⟨g, 0, none⟩), .pointer (some ⟨gr, 0, none⟩)] w fun e w' => e = .returned (.tuple #[.int .i64 (nxt ns l p).1, .int .i64 (nxt ns l p).2.1]) ∧ Rdr 94 w' gr l (nxt ns l p).2.2 ∧ Only gr w w' := by
  have hgr : gr < w.heap.size := by obtain ⟨_, _, hh, _⟩ := hr; exact blk_lt hh
  have hr1 : Rdr 94 (w.alloc (.cells #[.int .i64 0, .int .i64 0] 118)) gr l p := by
    obtain ⟨a, c, q1, q2, q3, q4, q5, q6⟩ := hr
    have hlow : ∀ k, k < w.heap.size → (w.alloc (.cells #[.int .i64 0, .int .i64 0] 118)).heap[k]? = w.heap[k]? := fun k hk => Below.heap_alloc _ _ _ hk
    exact ⟨a, c, (hlow gr hgr).trans q1, q2, q3, q4.keep fun q hq => cell_keep' (hlow _ (by omega)), q5, q6⟩
  have hnew := heap_alloc_new w (.cells #[.int .i64 0, .int .i64 0] 118)
  have hon : Only gr w (w.alloc (.cells #[.int .i64 0, .int .i64 0] 118)) := only_alloc (only_refl _ _) _
  obtain ⟨bw, bm, k, D, f1, f2, f3, h1, h2, h3, h4⟩ := h
  have HF := Lib.hid (And.intro (hF g f1) (And.intro (hF bw f2) (hF bm f3)))
  have H0 := Lib.hid (And.intro h1 (And.intro h3 h4))
  have HS := Lib.hid (And.intro hr1 (And.intro hnew hon))
  have hz := zeroW
  clear h1 h2 h3 h4 f1 f2 f3 hF hr1 hnew hon hr
  go_enter Tryd.func47, Tryd.ntmps47
  go_wp2_with fail
  clear hz
  generalize (w.alloc (.cells #[.int .i64 0, .int .i64 0] 118)) = w1 at *
  have hL15 := plong_le ns 15
  generalize hL : plong ns 15 = L at *
  go_loopg [] L (fun K wr => ∃ n : Nat, n + K ≤ L ∧ L ≤ n + K ∧ Hid (nxt ns l p = nxR ns l p n K) ∧ Hid (Rdr 94 wr gr l (p + n)) ∧ Hid (wr.heap[w.heap.size]? = some (.cells #[.int .i64 n, .int .i64 (wd l p n)] 118 (0, 0)) ∧ Only gr w wr))
  case atStart => exact ⟨0, by omega, by omega, Lib.hid (by rw [← hL]; rfl), Lib.hid HS.out.1, Lib.hid HS.out.2⟩
  case round =>
    clear HS w1
    obtain ⟨n, hn1, hn2, HN, HR, HW⟩ := hrel
    have hcode : wr.heap[g]? = some (.cells (codeCells bw bm ns.length L) 122 (0, 0)) := (HW.out.2.block g HF.out.1.1 (by intro e; injection e with e; exact HF.out.1.2 e)).trans H0.out.1
    have k1 : wr.cell? ⟨g, 1, none⟩ = some (.map (some bm)) := by rw [blk_cell hcode]; rfl
    have k2 : wr.cell? ⟨g, 2, none⟩ = some (.int .i64 L) := by rw [blk_cell hcode]; rfl
    have e0 : wr.cell? ⟨w.heap.size, 0, none⟩ = some (.int .i64 n) := by rw [blk_cell HW.out.1]; rfl
    have e1 : wr.cell? ⟨w.heap.size, 1, none⟩ = some (.int .i64 (wd l p n)) := by rw [blk_cell HW.out.1]; rfl
    clear hcode
    cases gk with
    | zero =>
      obtain rfl : n = L := by omega
      have hlt : ¬ ((n : Int) < n) := by omega
      have HN2 := HN.out
      rw [nxR_end] at HN2
      have HN3 := Lib.hid HN2
      clear HN2 HN hn1 hn2 hL hL15
      go_wp2_with fail
      go_quiet (fail)
      go_wp2_with fail
      go_ret2
      exact ⟨ret2' (by rw [HN3.out]) (by rw [HN3.out]), by rw [HN3.out]; exact HR.out, only_drewN HW.out.2 _⟩
    | succ K =>
      have hlt : (n : Int) < L := by omega
      by_cases hsh : p + n < 8 * l.length
      · have htk : tk l (p + n) 1 = bt l (p + n) := by simp [tk, bsum]
        obtain ⟨q1, q2, q3⟩ : errT l (p + n) 1 = 0 ∧ valT l (p + n) 1 = bt l (p + n) ∧ posT l (p + n) 1 = p + n + 1 := by
          have h := t_ok (l := l) (p := p + n) (m := 1) (by decide) (by omega)
          rw [htk] at h; exact h
        have hcall := fun m => bitTake (w := wr.drewN m) 1 (by decide) HR.out
        rw [q1, q2, q3] at hcall
        have hv : (wd l p (n + 1) : Int) = 2 * (wd l p n : Int) + bt l (p + n) := by
          have := (bt_nat l (p + n)).1
          rw [wd]; omega
        have hbb := bt_bd l (p + n)
        have hvlt := wd_lt l p (n + 1)
        have hp15 := Nat.pow_le_pow_right (n := 2) (by decide) (by omega : n + 1 ≤ 15)
        rw [(by decide : 2 ^ 15 = 32768)] at hp15
        have hsome := fun s hs => nxR_some ns l p n K s hsh hs
        have hnone := fun hs => nxR_none ns l p n K hsh hs
        rw [← HN.out] at hsome hnone
        have HSO := Lib.hid (And.intro hsome hnone)
        clear q1 q2 q3 htk hsome hnone
        generalize bt l (p + n) = b at *
        obtain ⟨u, hu⟩ : ∃ u, wd l p n = u := ⟨_, rfl⟩
        obtain ⟨v, hv'⟩ : ∃ v, wd l p (n + 1) = v := ⟨_, rfl⟩
        rw [hu] at e1 hv
        rw [hv'] at hv hvlt
        rw [hv'] at HSO
        have HV := Lib.hid (And.intro hu hv')
        have hv15 : v < 32768 := by omega
        clear hu hv' hvlt hp15 hL
        go_wp2_with fail
        go_quiet (fail)
        go_wp2_with fail
        refine (hcall _).mono ?_
        rintro e w3 ⟨rfl, hr3, ho3⟩
        have hW3 : w3.heap[w.heap.size]? = some (.cells #[.int .i64 n, .int .i64 u] 118 (0, 0)) := by
          have := (ho3.block w.heap.size (blk_lt (w := wr) HW.out.1) (by intro e; injection e with e; omega)).trans HW.out.1
          rw [HV.out.1] at this
          exact this
        have d0 : w3.cell? ⟨w.heap.size, 0, none⟩ = some (.int .i64 n) := by rw [blk_cell hW3]; rfl
        have d1 : w3.cell? ⟨w.heap.size, 1, none⟩ = some (.int .i64 u) := by rw [blk_cell hW3]; rfl
        have d2 := blk_free hW3 0
        have d3 := blk_free hW3 1
        clear hcall e0 e1 k1 k2
        go_upto_region 9 with (fail)
        rename_i hK
        have hor := or_bit1 u b (by omega) hbb
        rw [hor, ← hv, show (n : Int) + 1 = ((n + 1 : Nat) : Int) by omega]
        obtain ⟨m, hm⟩ : ∃ m, n + 1 = m := ⟨_, rfl⟩
        rw [hm] at HSO ⊢
        have HVV := Lib.hid hv
        clear hv
        have hm15 : m ≤ 15 := by omega
        have hm1 : 1 ≤ m := by omega
        have hw4 := blk_set (blk_set hW3 0 (.int .i64 (m : Int))) 1 (.int .i64 (v : Int))
        have ho4 : Only gr w ((w3.setCell ⟨w.heap.size, 0, none⟩ (.int .i64 (m : Int))).setCell ⟨w.heap.size, 1, none⟩ (.int .i64 (v : Int))) := by
          have h1 := only_trans (only_drewN HW.out.2 nq) ho3
          refine ⟨h1.os, h1.tape, h1.output, by simpa [World.setCell] using h1.size, fun i hi hne => ?_⟩
          exact (Below.heap_setCell _ ⟨w.heap.size, 1, none⟩ _ i (by show i ≠ w.heap.size; omega)).trans ((Below.heap_setCell _ ⟨w.heap.size, 0, none⟩ _ i (by show i ≠ w.heap.size; omega)).trans (h1.block i hi hne))
        have hr4 : Rdr 94 ((w3.setCell ⟨w.heap.size, 0, none⟩ (.int .i64 (m : Int))).setCell ⟨w.heap.size, 1, none⟩ (.int .i64 (v : Int))) gr l (p + n + 1) := by
          obtain ⟨a, c, q1, q2, q3, q4, q5, q6⟩ := hr3
          have hlow : ∀ k, k ≠ w.heap.size → ((w3.setCell ⟨w.heap.size, 0, none⟩ (.int .i64 (m : Int))).setCell ⟨w.heap.size, 1, none⟩ (.int .i64 (v : Int))).heap[k]? = w3.heap[k]? := fun k hk => (Below.heap_setCell _ ⟨w.heap.size, 1, none⟩ _ k hk).trans (Below.heap_setCell _ ⟨w.heap.size, 0, none⟩ _ k hk)
          exact ⟨a, c, (hlow gr (by omega)).trans q1, q2, q3, q4.keep fun q hq => cell_keep' (hlow _ (by omega)), q5, q6⟩
        clear hor hr3 ho3 hW3 d0 d1 d2 d3
        generalize ((w3.setCell ⟨w.heap.size, 0, none⟩ (.int .i64 (m : Int))).setCell ⟨w.heap.size, 1, none⟩ (.int .i64 (v : Int))) = w4 at *
        have k1 : w4.cell? ⟨g, 1, none⟩ = some (.map (some bm)) := by rw [blk_cell ((ho4.block g HF.out.1.1 (by intro e; injection e with e; exact HF.out.1.2 e)).trans H0.out.1)]; rfl
        have d0 : w4.cell? ⟨w.heap.size, 0, none⟩ = some (.int .i64 (m : Int)) := by rw [blk_cell hw4]; rfl
        have d1 : w4.cell? ⟨w.heap.size, 1, none⟩ = some (.int .i64 v) := by rw [blk_cell hw4]; rfl
        have hom := ownsMap_blk H0.out.2.1 (ho4.block bm HF.out.2.2.1 (by intro e; injection e with e; exact HF.out.2.2.2 e))
        have hlk : ∀ dd, (Instr.lookup 120 (.map (some bm)) (.agg #[.int .i64 (m : Int), .int .i64 (v : Int)]) true).run Tryd.prog (w4.drewN dd) = .ok (.tuple #[.int .i64 (((plookTo ns ns.length m v).getD 0 : Nat) : Int), .bool (plookTo ns ns.length m v).isSome]) (w4.drewN dd) := fun dd => look_is (W := w4.drewN dd) (ownsMap_blk hom rfl) H0.out.2.2 (n := m) (v := v) (by omega) (by omega)
        rw [plookTo_all _ (by omega)] at hlk
        have H4 := Lib.hid (And.intro hw4 (And.intro hr4 ho4))
        clear hw4 hr4 ho4 hom
        cases hp : plook ns m v with
        | some s =>
          have hres := HSO.out.1 s hp
          rw [hp] at hlk
          have HE := Lib.hid hres
          clear hres hp HSO HN
          simp only [Option.getD_some, Option.isSome_some] at hlk
          go_quiet (fail)
          go_wp2_with fail
          go_ret2
          exact ⟨ret2' (by rw [HE.out]) (by rw [HE.out]), by rw [HE.out]; exact H4.out.2.1, only_drewN H4.out.2.2 _⟩
        | none =>
          have hres := HSO.out.2 hp
          rw [hp] at hlk
          have HE := Lib.hid hres
          clear hres hp HSO HN
          simp only [Option.getD_none, Option.isSome_none] at hlk
          go_quiet (fail)
          refine hK _ _ ?_
          go_wp2_with fail
          go_roundg K
          case measure => omega
          case rel => exact ⟨m, by omega, by omega, HE, Lib.hid (by rw [← hm, ← Nat.add_assoc]; exact H4.out.2.1), Lib.hid ⟨by rw [← hm, HV.out.2, hm]; exact H4.out.1, only_drewN H4.out.2.2 _⟩⟩
      · obtain ⟨q1, q2, q3⟩ := t_short (l := l) (p := p + n) (n := 1) (by decide) (by omega)
        have hcall := fun m => bitTake (w := wr.drewN m) 1 (by decide) HR.out
        rw [q1, q2, q3] at hcall
        have hres := nxR_short ns l p n K (by omega)
        rw [← HN.out] at hres
        have HE := Lib.hid hres
        clear q1 q2 q3 hres hL HN
        go_wp2_with fail
        go_quiet (fail)
        go_wp2_with fail
        refine (hcall _).mono ?_
        rintro e w3 ⟨rfl, hr3, ho3⟩
        have HR3 := Lib.hid hr3
        clear hr3 hcall
        go_wp2_with fail
        go_ret2
        exact ⟨ret2' (by rw [HE.out]) (by rw [HE.out]), by rw [HE.out]; exact HR3.out, only_trans (only_drewN HW.out.2 _) ho3⟩
end Go.Proofs.YtdcpibglbanchaaDoor
