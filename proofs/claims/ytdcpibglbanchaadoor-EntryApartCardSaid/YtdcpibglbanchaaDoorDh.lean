/- The names that were read, as a map of texts: contract of keep. Condition: the variable internal/bytealg.MaxLen has a value. An entry is kept: contract of keep. Condition: the variable internal/bytealg.MaxLen has a value. An entry is kept: contract of keep where the name may stand. Condition: the variable internal/bytealg.MaxLen has a value. -/
import Derived.Test.YtdcpibglbanchaaDoorDe
import Derived.Test.YtdcpibglbanchaaDoorNc
import Derived.Maps.OwnSet
import Derived.StringKeys
import Derived.Great.BuildSlice
import Derived.Deep.MidRow
set_option linter.unusedVariables false
set_option maxRecDepth 100000
namespace Go.Proofs.YtdcpibglbanchaaDoor
open Go.RowKit Go.Maps Go.ChangeMaps

theorem strK9 : Keyed Tryd.prog 9 := string_keyed Tryd.underlying9
theorem mapN9 : Tryd.prog.underlying 39 = some (.map 9 91) := Tryd.underlying39
theorem zeroU9 (w : World) : (zeroValue 91).run Tryd.prog w = .ok (.agg #[]) w := by kernel_rfl
/-- block b is a map of at most n keys: the names ns -/
def NM (w : World) (b n : Nat) (ns : List (List UInt8)) : Prop := ∃ D : DataW Unit, w.ownsMap Tryd.prog 9 unitElem b n D ∧ ∀ l : List UInt8, Maps.has D (.string l) = decide (l ∈ ns)
theorem NM.keep {w w' : World} {b n : Nat} {ns : List (List UInt8)} (h : NM w b n ns) (hg : w'.heap[b]? = w.heap[b]?) : NM w' b n ns := by
  obtain ⟨D, ⟨es, clock, hb, hr⟩, hf⟩ := h
  exact ⟨D, ⟨es, clock, hg.trans hb, hr⟩, hf⟩
theorem NM.lt {w : World} {b n : Nat} {ns : List (List UInt8)} (h : NM w b n ns) : b < w.heap.size := by obtain ⟨D, h, _⟩ := h; exact h.lt
theorem key_str {s : ByteArray} (hs : s.size ≤ 65536) : keyOf Tryd.prog 9 (.string s) = some (.string s.data.toList) := WideMaps.keyOf_string_mk Tryd.underlying9 (by unfold maxLen; omega)
theorem NM.made (w : World) : NM (w.alloc (.map #[] 0)) w.heap.size 0 [] := ⟨_, World.ownsMap_made _ _ _ _, fun i => by simp; rfl⟩
theorem NM.look {w : World} {b n : Nat} {ns : List (List UInt8)} (h : NM w b n ns) {s : ByteArray} (hs : s.size ≤ 65536) {W : World} (hW : W.heap[b]? = w.heap[b]?) :
    (Instr.lookup 39 (.map (some b)) (.string s) true).run Tryd.prog W = .ok (.tuple #[.agg #[], .bool (decide (s.data.toList ∈ ns))]) W := by
  obtain ⟨D, h, hf⟩ := h.keep hW
  obtain ⟨v, ps, hr, hv⟩ := h.look_ok strK9 mapN9 (zeroU9 W) (zd := .agg []) (zp := []) unitElem_mk (key_str hs)
  obtain ⟨rfl, _⟩ := unitElem_inv hv
  rw [hf] at hr
  exact hr
theorem NM.put {w : World} {b n : Nat} {ns : List (List UInt8)} (h : NM w b n ns) (hn : n < maxLen) {s : ByteArray} (hs : s.size ≤ 65536) {W : World} (hW : W.heap[b]? = w.heap[b]?) :
    ∃ w', (Instr.mapUpdate 39 (.map (some b)) (.string s) (.agg #[])).run Tryd.prog W = .ok () w' ∧ NM w' b (n + 1) (ns ++ [s.data.toList]) ∧ W.grownBy w' (some b) := by
  obtain ⟨D, h, hf⟩ := h.keep hW
  obtain ⟨w', hr, ho, ht⟩ := h.store strK9 mapN9 hn (key_str hs) unitElem_mk
  refine ⟨w', hr, ⟨_, ho, fun l => ?_⟩, ht.grown⟩
  by_cases e : l = s.data.toList
  · subst e
    rw [has_put_same h.isMap (by trivial)]
    simp
  · rw [has_put_other (by intro e2; injection e2 with e2; exact e e2), hf]
    simp [e]
/-- the look at an archive, in memory, from the call's world on -/
structure LK (W w : World) (g mb k mn base : Nat) (b : Option Addr) (n c : Nat) (fr tt ct : Int) (V : Value) (m : Nat) (xs : List Value) (ns : List (List UInt8)) : Prop where
  low : Below W.heap.size W w
  o0 : 1 < W.heap.size
  o1 : W.heap.size ≤ mb
  o2 : mb < mn
  o3 : mn < g
  o4 : g < base
  o5 : base ≤ w.heap.size
  blk : w.heap[g]? = some (.cells #[.slice b n c, .map (some mb), .int .i64 fr, .int .i64 tt, .int .i64 ct, .map (some mn), V] 42 (0, 0))
  sig : Mp4 w mb k (sigF true true true)
  nam : NM w mn ns.length ns
  row : w.ownsRow base 59 32 V m xs
  mx : Mx w
theorem own_grown {w w' : World} {base mn : Nat} {t : TypeId} {v : Value} {n k : Nat} {xs : List Value} (h : w.ownsRow base t k v n xs) (hb : w.grownBy w' (some mn)) (hm : mn < base) : w'.ownsRow base t k v n xs := by
  refine ⟨h.1, ?_⟩
  rcases h.2 with h2 | ⟨g, cap, cur, h1, h2, h3, h4⟩
  · exact .inl h2
  · have hg : g < w.heap.size := by
      rcases Nat.lt_or_ge g w.heap.size with q | q
      · exact q
      · rw [Array.getElem?_eq_none q] at h3; cases h3
    exact .inr ⟨g, cap, cur, h1, h2, (hb.block g hg (by intro e; injection e with e; omega)).trans h3, h4⟩
theorem LK.below {W w w' : World} {g mb k mn base : Nat} {b : Option Addr} {n c : Nat} {fr tt ct : Int} {V : Value} {m : Nat} {xs : List Value} {ns : List (List UInt8)} (h : LK W w g mb k mn base b n c fr tt ct V m xs ns) (hb : Below w.heap.size w w') : LK W w' g mb k mn base b n c fr tt ct V m xs ns :=
  ⟨below_next h.low (Nat.le_refl _) hb, h.o0, h.o1, h.o2, h.o3, h.o4, Nat.le_trans h.o5 hb.size, (hb.block _ (Nat.lt_of_lt_of_le h.o4 h.o5)).trans h.blk, h.sig.blk (hb.block _ h.sig.lt), h.nam.keep (hb.block _ h.nam.lt), own_below h.row hb, h.mx.below hb⟩
section
variable {W w : World} {g mb k mn base : Nat} {b : Option Addr} {n c : Nat} {fr tt ct : Int} {V : Value} {m : Nat} {xs : List Value} {ns : List (List UInt8)}
theorem LK.named {w' : World} {s : List UInt8} (h : LK W w g mb k mn base b n c fr tt ct V m xs ns) (hn : NM w' mn (ns.length + 1) (ns ++ [s])) (hg : w.grownBy w' (some mn)) : LK W w' g mb k mn base b n c fr tt ct V m xs (ns ++ [s]) :=
  have o0 := h.o0; have o1 := h.o1; have o2 := h.o2; have o3 := h.o3; have o4 := h.o4; have o5 := h.o5; have s1 := hg.size; have s2 := h.sig.lt
  ⟨h.low.grown hg h.low.size (fun q e => by injection e with e; omega), h.o0, h.o1, h.o2, h.o3, h.o4, Nat.le_trans h.o5 hg.size, (hg.block g (by omega) (by intro e; injection e with e; omega)).trans h.blk, h.sig.blk (hg.block mb s2 (by intro e; injection e with e; omega)), by rw [List.length_append]; exact hn, own_grown h.row hg (by omega), Nat.lt_of_lt_of_le h.mx.1 hg.size, by
    obtain ⟨hm1, mm, hm2⟩ := h.mx
    refine ⟨mm, ?_⟩
    have : w'.heap[1]? = w.heap[1]? := hg.block 1 hm1 (by intro e; injection e with e; omega)
    rw [← hm2]
    simp [World.cell?, this]⟩
theorem LK.drew (h : LK W w g mb k mn base b n c fr tt ct V m xs ns) : LK W w.drew g mb k mn base b n c fr tt ct V m xs ns := h.below (low_drewN (Below.refl _ _) 1)
def keepW (w : World) (nm : ByteArray) (cs : List Value) : World := w.alloc (.cells (.string nm :: cs).toArray 59)
theorem LK.keepW (h : LK W w g mb k mn base b n c fr tt ct V m xs ns) (nm : ByteArray) (cs : List Value) : LK W (keepW w nm cs) g mb k mn base b n c fr tt ct V m xs ns := h.below ((Below.refl _ _).alloc (Nat.le_refl _) _)
set_option maxHeartbeats 4000000 in
theorem keep_bad (h : LK W w g mb k mn base b n c fr tt ct V m xs ns) (nm : ByteArray) (cs : List Value) (hl : cs.length = 31) (hn : nm.size ≤ 65536) (hbad : nameB nm = false) :
    Calls Tryd.prog 27 #[.pointer (some ⟨g, 0, none⟩), .agg (.string nm :: cs).toArray] w fun e w' => e = .returned (.int .i64 13) ∧ LK W w' g mb k mn base b n c fr tt ct V m xs ns := by
  have h1 := h.keepW nm cs
  have hnm := name_is nm (Go.Proofs.YtdcpibglbanchaaDoor.keepW w nm cs) h1.mx
  rw [hbad] at hnm
  have HL := Lib.hid h1
  clear h h1
  unfold Go.Proofs.YtdcpibglbanchaaDoor.keepW at hnm
  go_enter Tryd.func27, Tryd.ntmps27
  go_wp2_with fail
  refine hnm.mono ?_
  rintro e w1 ⟨rfl, hb1⟩
  have H1 := Lib.hid (HL.out.below hb1)
  clear hnm hb1
  go_wp2_with fail
  go_ret
  exact ⟨rfl, H1.out⟩
set_option maxHeartbeats 4000000 in
theorem keep_twice (h : LK W w g mb k mn base b n c fr tt ct V m xs ns) (nm : ByteArray) (cs : List Value) (hl : cs.length = 31) (hn : nm.size ≤ 65536) (hgood : nameB nm = true) (hin : nm.data.toList ∈ ns) :
    Calls Tryd.prog 27 #[.pointer (some ⟨g, 0, none⟩), .agg (.string nm :: cs).toArray] w fun e w' => e = .returned (.int .i64 14) ∧ LK W w' g mb k mn base b n c fr tt ct V m xs ns := by
  have h1 := h.keepW nm cs
  have hnm := name_is nm (Go.Proofs.YtdcpibglbanchaaDoor.keepW w nm cs) h1.mx
  rw [hgood] at hnm
  have hnew : (Go.Proofs.YtdcpibglbanchaaDoor.keepW w nm cs).heap[w.heap.size]? = some (.cells (.string nm :: cs).toArray 59 (0, 0)) := heap_alloc_new w _
  have HL := Lib.hid h1
  have HN := Lib.hid hnew
  clear h h1 hnew
  have hsz : w.heap.size < (Go.Proofs.YtdcpibglbanchaaDoor.keepW w nm cs).heap.size := by unfold Go.Proofs.YtdcpibglbanchaaDoor.keepW; simp
  unfold Go.Proofs.YtdcpibglbanchaaDoor.keepW at hnm
  go_enter Tryd.func27, Tryd.ntmps27
  go_wp2_with fail
  refine hnm.mono ?_
  rintro e w1 ⟨rfl, hb1⟩
  have h1 := HL.out.below hb1
  have hnew1 := (hb1.block _ hsz).trans HN.out
  have c0 : w1.cell? ⟨w.heap.size, 0, none⟩ = some (.string nm) := by rw [blk_cell hnew1]; simp
  have c5 : w1.cell? ⟨g, 5, none⟩ = some (.map (some mn)) := by rw [blk_cell h1.blk]; rfl
  have h2 := h1.below ((Below.refl w1.heap.size w1).alloc (Nat.le_refl _) (.cells #[] 91))
  have hnew2 : (w1.alloc (.cells #[] 91)).heap[w.heap.size]? = some (.cells (.string nm :: cs).toArray 59 (0, 0)) := (((Below.refl w1.heap.size w1).alloc (Nat.le_refl _) (.cells #[] 91)).block _ (blk_lt hnew1)).trans hnew1
  have c0' : (w1.alloc (.cells #[] 91)).cell? ⟨w.heap.size, 0, none⟩ = some (.string nm) := by rw [blk_cell hnew2]; simp
  have c5' : (w1.alloc (.cells #[] 91)).cell? ⟨g, 5, none⟩ = some (.map (some mn)) := by rw [blk_cell h2.blk]; rfl
  have hlook := h2.nam.look hn (W := (w1.alloc (.cells #[] 91)).drew) rfl
  have hlook' := h1.nam.look hn (W := w1.drew) rfl
  rw [decide_eq_true hin] at hlook hlook'
  have H1 := Lib.hid h2
  clear hnm hb1 h1 h2 hnew1 hnew2 hsz
  go_wp2_with fail
  go_region_law (fail)
  go_wp2_with fail
  all_goals (go_ret; exact ⟨rfl, H1.out.drew⟩)
end
end Go.Proofs.YtdcpibglbanchaaDoor

set_option linter.unusedVariables false
set_option maxRecDepth 100000
namespace Go.Proofs.YtdcpibglbanchaaDoor
open Go.RowKit Go.Maps Go.ChangeMaps

theorem cut_later {P Q : Prop} (hm : P → Q) (hT : P) : Q := hm hT
section
variable {W w : World} {g mb k mn base : Nat} {b : Option Addr} {n c : Nat} {fr tt ct : Int} {V : Value} {m : Nat} {xs : List Value} {ns : List (List UInt8)}
theorem LK.kept {w4 : World} {V' : Value} {ys : List Value} (h : LK W w g mb k mn base b n c fr tt ct V m xs ns) (ho : w4.ownsRow base 59 32 V' (m + 1) (xs ++ ys)) (hg : w.grownBy w4 V.ownBlock) (hob : V'.ownBlock = V.ownBlock ∨ V'.ownBlock = some w.heap.size) :
    w4.cell? ⟨g, 6, none⟩ = some V ∧ w4.frozen? ⟨g, 6, none⟩ = false ∧ LK W (w4.setCell ⟨g, 6, none⟩ V') g mb k mn base b n c fr tt ct V' (m + 1) (xs ++ ys) ns := by
  have o0 := h.o0; have o1 := h.o1; have o2 := h.o2; have o3 := h.o3; have o4 := h.o4; have o5 := h.o5; have s1 := hg.size; have s2 := h.sig.lt
  have hq : ∀ q, V.ownBlock = some q → base ≤ q := fun q e => by
    rcases h.row.2 with ⟨e1, _⟩ | ⟨g1, cap, cur, e1, e2, _⟩
    · rw [e1] at e; cases e
    · rw [e1] at e; simp [Value.ownBlock] at e; omega
  have hkeep : ∀ i, i < base → w4.heap[i]? = w.heap[i]? := fun i hi => hg.block i (by omega) (fun e => by have := hq i e.symm; omega)
  have hb4 : w4.heap[g]? = _ := (hkeep g o4).trans h.blk
  have hset : ∀ i, i ≠ g → (w4.setCell ⟨g, 6, none⟩ V').heap[i]? = w4.heap[i]? := fun i hi => Below.heap_setCell _ ⟨g, 6, none⟩ _ i hi
  have hsz : (w4.setCell ⟨g, 6, none⟩ V').heap.size = w4.heap.size := by simp [World.setCell]
  refine ⟨by rw [blk_cell hb4]; rfl, blk_free hb4 6, (h.low.grown hg h.low.size (fun q e => by have := hq q e; omega)).setCell (p := ⟨g, 6, none⟩) (by show W.heap.size ≤ g; omega) V', o0, o1, o2, o3, o4, by rw [hsz]; omega, (blk_set hb4 6 V').trans rfl, h.sig.blk ((hset mb (by omega)).trans (hkeep mb (by omega))), h.nam.keep ((hset mn (by omega)).trans (hkeep mn (by omega))), own_other ho (fun e => ?_) 6 V', by rw [hsz]; omega, ?_⟩
  · rcases hob with h1 | h1
    · rw [h1] at e; have := hq g e; omega
    · rw [h1] at e; injection e with e; omega
  · obtain ⟨hm1, mm, hm2⟩ := h.mx
    refine ⟨mm, ?_⟩
    have : (w4.setCell ⟨g, 6, none⟩ V').heap[1]? = w.heap[1]? := (hset 1 (by omega)).trans (hkeep 1 (by omega))
    rw [← hm2]
    simp [World.cell?, this]
theorem fnd_info : (Tryd.prog.info? 59).bind (fun i => i.zero.map fun z => (i.size, i.bytes, z.cells.size)) = some (32, 96, 32) := by kernel_rfl
theorem fnd_parts : ∃ i z, Tryd.prog.info? 59 = some i ∧ i.zero = some z ∧ i.size = 32 ∧ i.bytes = 96 ∧ z.cells.size = 32 := by
  have h := fnd_info
  cases hi : Tryd.prog.info? 59 with
  | none => rw [hi] at h; cases h
  | some i =>
    rw [hi] at h
    cases hz : i.zero with
    | none => simp [hz] at h
    | some z =>
      simp [hz] at h
      exact ⟨i, z, rfl, hz, h.1, h.2.1, h.2.2⟩
theorem step_fnd {w : World} {ops : Array Oper} {o : Oper} {a : Act} {K : Act → World → Prop} {Q : Exit → Act → World → Prop} {E : Prop} (hgd : o.guard = none) (x : Operand) (ho : o.op = .load 59 x) (q : Nat) (hx : a.eval x = .pointer (some ⟨q, 0, none⟩))
    (cs : List Value) (hl : cs.length = 32) (hh : w.heap[q]? = some (.cells cs.toArray 59 (0, 0))) (h : K (a.put o.dst (.agg cs.toArray)) w) :
    if Region.wanted o (yielded ops a.tmps) = true then Oper.wp Tryd.prog o a w K Q else E := by
  have hw : Region.wanted o (yielded ops a.tmps) = true := by simp [Region.wanted, hgd]
  rw [if_pos hw]
  obtain ⟨i, z, hi, _, h32, _, _⟩ := fnd_parts
  exact wp_load_mid 59 x ho q 0 hx cs _ (fun j v hv => by rw [Nat.zero_add, blk_cell hh]; simpa using hv) Tryd.underlying59 rfl (by rw [hi, hl]; exact congrArg some h32) h
theorem step_app32 {w : World} {ops : Array Oper} {o : Oper} {a : Act} {K : Act → World → Prop} {Q : Exit → Act → World → Prop} {E : Prop} (hgd : o.guard = none) (s x : Operand)
    (ho : o.op = .call { callee := .builtin .append, args := #[s, x], argTypes := #[40, 40] }) (base : Nat) (v : Value) (n : Nat) (xs : List Value) (hs : a.eval s = v) (hown : w.ownsRow base 59 32 v n xs)
    (q : Nat) (cs : List Value) (hl : cs.length = 32) (hx : a.eval x = .slice (some ⟨q, 0, none⟩) 1 1) (hh : w.heap[q]? = some (.cells cs.toArray 59 (0, 0))) (h1 : ∀ u ∈ cs, u.oneCell' = true) (hn : n ≤ 1000) (hbase : base ≤ w.heap.size)
    (h : ∀ v' w', w'.ownsRow base 59 32 v' (n + 1) (xs ++ cs) → w.grownBy w' v.ownBlock → (v'.ownBlock = v.ownBlock ∨ v'.ownBlock = some w.heap.size) → K (a.put o.dst v') w') :
    if Region.wanted o (yielded ops a.tmps) = true then Oper.wp Tryd.prog o a w K Q else E := by
  have hw : Region.wanted o (yielded ops a.tmps) = true := by simp [Region.wanted, hgd]
  rw [if_pos hw]
  obtain ⟨i, z, hi, hz, h32, h96, hzs⟩ := fnd_parts
  obtain ⟨v', w', hr, h2, h3, _, h4⟩ := run_append_own_at (P := Tryd.prog) (w := w) base 40 o.type 59 i z 32 96 Tryd.underlying40 hi hz h32 h96 hzs (by decide) v n xs hown ⟨q, 0, none⟩ 1 1 cs (by rw [hl]) (fun j u hu => by
    rw [show Addr.add ⟨q, 0, none⟩ j = ⟨q, j, none⟩ by simp [Addr.add]; exact fun h => h.symm, blk_cell hh]; simpa using hu) h1 (by unfold maxLen; omega) (by omega) hbase
  unfold Oper.wp execOp
  simp only [ho, resolve, invoke, builtin, Sem.run_bind, Sem.run_pure, Result.andThen_ok, List.map_toArray, List.map_cons, List.map_nil, hs, hx, hr]
  exact h v' w' h2 h3 h4
theorem fold_fill (vs : List Value) : ∀ (n : Nat) (z : Array Value), n + vs.length ≤ z.size → ((vs.zipIdx n).foldl (fun (cs : Array Value) (x : Value × Nat) => cs.setIfInBounds (0 + x.2) x.1) z).toList = z.toList.take n ++ vs ++ z.toList.drop (n + vs.length) := by
  induction vs with
  | nil => intro n z h; simp
  | cons v vs ih =>
    intro n z h
    rw [List.zipIdx_cons, List.foldl_cons]
    have hs : (z.setIfInBounds (0 + n) v).size = z.size := by simp
    rw [ih (n + 1) _ (by rw [hs]; simp at h; omega), Nat.zero_add, Array.toList_setIfInBounds]
    simp only [List.length_cons] at h ⊢
    have hlt : n < z.toList.length := by rw [Array.length_toList]; omega
    rw [List.take_set, List.drop_set_of_lt (by omega), List.take_succ_eq_append_getElem hlt, List.set_append]
    rw [if_neg (by rw [List.length_take]; omega)]
    have e : n - (List.take n z.toList).length = 0 := by rw [List.length_take]; omega
    rw [e]
    simp only [List.set_cons_zero, List.append_assoc, List.cons_append, List.nil_append]
    rw [show n + 1 + vs.length = n + (vs.length + 1) by omega]
theorem fill_one (k : Nat) (cs : List Value) (hl : cs.length = k) (z : Array Value) (hz : z.size = k) : Instr.fill (fun i => some (i * k, k)) z [(0, .agg cs.toArray)] = some cs.toArray := by
  have hf := fold_fill cs 0 z (by omega)
  rw [List.take_zero, List.nil_append, List.drop_eq_nil_of_le (by rw [Array.length_toList]; omega), List.append_nil] at hf
  unfold Instr.fill
  simp only [Value.cells, List.size_toArray, hl, Nat.zero_mul, Nat.zero_add, hz]
  simp only [ne_eq, not_true_eq_false, decide_false, Bool.false_or, gt_iff_lt, Nat.lt_irrefl, Instr.fill]
  rw [if_neg (by decide)]
  refine congrArg some (Array.ext' ?_)
  rw [← Array.foldl_toList, Array.toList_zipIdx]
  simp only [Nat.zero_add] at hf
  exact hf
theorem run_fnd (W : World) (q : Nat) (cs : List Value) (hl : cs.length = 32) (hh : W.heap[q]? = some (.cells cs.toArray 59 (0, 0))) : (Instr.loadAt 59 (.pointer (some ⟨q, 0, none⟩))).run Tryd.prog W = .ok (.agg cs.toArray) W := by
  obtain ⟨i, z, hi, _, h32, _, _⟩ := fnd_parts
  exact run_loadAt_mid W q 0 59 cs _ (fun j v hv => by rw [Nat.zero_add, blk_cell hh]; simpa using hv) Tryd.underlying59 rfl (by rw [hi, hl]; exact congrArg some h32)
theorem run_app32 {w : World} (base : Nat) (v : Value) (n : Nat) (xs : List Value) (hown : w.ownsRow base 59 32 v n xs)
    (q : Nat) (cs : List Value) (hl : cs.length = 32) (hh : w.heap[q]? = some (.cells cs.toArray 59 (0, 0))) (h1 : ∀ u ∈ cs, u.oneCell' = true) (hn : n ≤ 1000) (hbase : base ≤ w.heap.size) :
    ∃ v' w', (Builtin.append_ #[40, 40] 40 #[v, .slice (some ⟨q, 0, none⟩) 1 1]).run Tryd.prog w = .ok v' w' ∧ w'.ownsRow base 59 32 v' (n + 1) (xs ++ cs) ∧ w.grownBy w' v.ownBlock ∧ (v'.ownBlock = v.ownBlock ∨ v'.ownBlock = some w.heap.size) := by
  obtain ⟨i, z, hi, hz, h32, h96, hzs⟩ := fnd_parts
  obtain ⟨v', w', hr, h2, h3, _, h4⟩ := run_append_own_at (P := Tryd.prog) (w := w) base 40 40 59 i z 32 96 Tryd.underlying40 hi hz h32 h96 hzs (by decide) v n xs hown ⟨q, 0, none⟩ 1 1 cs (by rw [hl]) (fun j u hu => by
    rw [show Addr.add ⟨q, 0, none⟩ j = ⟨q, j, none⟩ by simp [Addr.add]; exact fun h => h.symm, blk_cell hh]; simpa using hu) h1 (by unfold maxLen; omega) (by omega) hbase
  exact ⟨v', w', hr, h2, h3, h4⟩
end
end Go.Proofs.YtdcpibglbanchaaDoor

set_option linter.unusedVariables false
set_option maxRecDepth 100000
namespace Go.Proofs.YtdcpibglbanchaaDoor
open Go.RowKit Go.Maps Go.ChangeMaps

/-- where the last region of keep has come to -/
structure KpC (wa wb wc wd : World) (L : Array Bool) (W : World) : Prop where
  c7 : L[7]? = some true → L[4]? = some true ∧ L[6]? = some true
  c6 : L[6]? = some true → L[5]? = some true
  cx : L[10]? = some true → L[7]? = some true
  world : W = if L[10]? = some true then wd else if L[7]? = some true then wc else if L[6]? = some true then wb else wa
theorem set_true {L : Array Bool} {i k : Nat} (h : L[k]? = some true) : (L.setIfInBounds i true)[k]? = some true := by
  by_cases e : i = k
  · subst e
    have hk : i < L.size := by
      rcases Nat.lt_or_ge i L.size with q | q
      · exact q
      · rw [Array.getElem?_eq_none q] at h; cases h
    simp [hk]
  · rw [Array.getElem?_setIfInBounds_ne e]; exact h
theorem set_ne {L : Array Bool} {i k : Nat} (e : i ≠ k) : (L.setIfInBounds i true)[k]? = L[k]? := Array.getElem?_setIfInBounds_ne e
theorem set_same {L : Array Bool} {i : Nat} (h : L[i]? = some false) : (L.setIfInBounds i true)[i]? = some true := by
  have hk : i < L.size := by
    rcases Nat.lt_or_ge i L.size with q | q
    · exact q
    · rw [Array.getElem?_eq_none q] at h; cases h
  simp [hk]
section
variable {wa wb wc wd W : World} {L : Array Bool}
theorem KpC.skip (h : KpC wa wb wc wd L W) (i : Nat) (h6 : i ≠ 6) (h7 : i ≠ 7) (hx : i ≠ 10) : KpC wa wb wc wd (L.setIfInBounds i true) W :=
  ⟨fun q => by rw [set_ne h7] at q; exact ⟨set_true (h.c7 q).1, set_true (h.c7 q).2⟩, fun q => by rw [set_ne h6] at q; exact set_true (h.c6 q), fun q => by rw [set_ne hx] at q; exact set_true (h.cx q), by rw [set_ne hx, set_ne h7, set_ne h6]; exact h.world⟩
theorem KpC.early (h : KpC wa wb wc wd L W) (h7 : L[7]? ≠ some true) : W = wa ∨ W = wb := by
  have hx : L[10]? ≠ some true := fun q => h7 (h.cx q)
  have := h.world
  rw [if_neg hx, if_neg h7] at this
  split at this
  · exact .inr this
  · exact .inl this
theorem KpC.first (h : KpC wa wb wc wd L W) (h6 : L[6]? ≠ some true) : W = wa := by
  have h7 : L[7]? ≠ some true := fun q => h6 (h.c7 q).2
  have hx : L[10]? ≠ some true := fun q => h7 (h.cx q)
  have := h.world
  rw [if_neg hx, if_neg h7, if_neg h6] at this; exact this
theorem KpC.put6 (h : KpC wa wb wc wd L W) (h6 : L[6]? = some false) (h5 : L[5]? = some true) : KpC wa wb wc wd (L.setIfInBounds 6 true) wb := by
  have h7 : L[7]? ≠ some true := fun q => by have := (h.c7 q).2; rw [h6] at this; cases this
  have hx : L[10]? ≠ some true := fun q => h7 (h.cx q)
  refine ⟨fun q => ?_, fun _ => ?_, fun q => ?_, ?_⟩
  · rw [set_ne (by decide)] at q; exact absurd q h7
  · rw [set_ne (by decide)]; exact h5
  · rw [set_ne (by decide)] at q; exact absurd q hx
  · rw [set_ne (by decide), set_ne (by decide), set_same h6, if_neg hx, if_neg h7, if_pos rfl]
theorem KpC.put7 (h : KpC wa wb wc wd L W) (h7 : L[7]? = some false) (h4 : L[4]? = some true) (h6 : L[6]? = some true) : W = wb ∧ KpC wa wb wc wd (L.setIfInBounds 7 true) wc := by
  have h7' : L[7]? ≠ some true := by rw [h7]; decide
  have hx : L[10]? ≠ some true := fun q => h7' (h.cx q)
  refine ⟨?_, fun _ => ?_, fun q => ?_, fun q => ?_, ?_⟩
  · have := h.world
    rw [if_neg hx, if_neg h7', if_pos h6] at this; exact this
  · rw [set_ne (by decide), set_ne (by decide)]; exact ⟨h4, h6⟩
  · rw [set_ne (by decide)] at q ⊢; exact h.c6 q
  · rw [set_ne (by decide)] at q; exact absurd q hx
  · rw [set_ne (by decide), set_same h7, if_neg hx, if_pos rfl]
theorem KpC.putx (h : KpC wa wb wc wd L W) (hx : L[10]? = some false) (h7 : L[7]? = some true) : W = wc ∧ KpC wa wb wc wd (L.setIfInBounds 10 true) wd := by
  have hx' : L[10]? ≠ some true := by rw [hx]; decide
  refine ⟨?_, fun q => ?_, fun q => ?_, fun q => ?_, ?_⟩
  · have := h.world
    rw [if_neg hx', if_pos h7] at this; exact this
  · rw [set_ne (by decide), set_ne (by decide)]; exact h.c7 h7
  · rw [set_ne (by decide)] at q ⊢; exact h.c6 q
  · rw [set_ne (by decide)]; exact h7
  · rw [set_same hx, if_pos rfl]
theorem KpC.last (h : KpC wa wb wc wd L W) (hx : L[10]? = some true) : W = wd := by
  have := h.world
  rw [if_pos hx] at this; exact this
end
theorem y_stF (g k : Nat) (a : Option Addr) (n c : Nat) (old : Value) (W : World) (h : W.cell? ⟨g, k, none⟩ = some old) (hf : W.frozen? ⟨g, k, none⟩ = false) : (Instr.storeAt 40 (.pointer (some ⟨g, k, none⟩)) (.slice a n c)).run Tryd.prog W = .ok () (W.setCell ⟨g, k, none⟩ (.slice a n c)) := by
  simp [Instr.storeAt, Instr.sureAddr, storeVar, Result.andThen, h, hf, go_sem]
theorem lk_fa6 (g : Nat) (W : World) : (Instr.fieldAt 42 (.pointer (some ⟨g, 0, none⟩)) 6).run Tryd.prog W = .ok (.pointer (some ⟨g, 6, none⟩)) W := by kernel_rfl
theorem y_buildF {a : Act} {w : World} {o : Oper} {k : Nat} {cs : List Value} (hl : cs.length = 32) (ho : o.op = .buildSlice 40 1 #[(0, .tmp k)]) (hx : a.eval (.tmp k) = .agg cs.toArray) : (execOp a.eval o).run Tryd.prog w = .ok (.value (.slice (some ⟨w.heap.size, 0, none⟩) 1 1)) (w.alloc (.cells cs.toArray 59)) := by
  obtain ⟨i, z, hi, hz, h32, h96, hzs⟩ := fnd_parts
  have hr : (Instr.buildSlice 40 1 #[(0, .agg cs.toArray)]).run Tryd.prog w = .ok (.slice (some ⟨w.heap.size, 0, none⟩) 1 1) (w.alloc (.cells cs.toArray 59)) :=
    run_buildSlice w _ _ 1 _ _ i z Tryd.underlying40 hi hz (by rw [h32]; decide) (by rw [h32]; decide) (by rw [h32]; exact fill_one 32 cs hl _ (by simp))
  unfold execOp
  simp only [ho, List.map_toArray, List.map, hx, Sem.run_bind, hr]
  rfl
theorem y_app {P : Program} {ρ : Operand → Value} {w w' : World} {o : Oper} {x y : Operand} {t : TypeId} {a b v : Value} (ho : o.op = .call { callee := .builtin .append, args := #[x, y], argTypes := #[t, t] }) (hx : ρ x = a) (hy : ρ y = b) (hr : (Builtin.append_ #[t, t] o.type #[a, b]).run P w = .ok v w') : (execOp ρ o).run P w = .ok (.value v) w' := by
  unfold execOp
  simp only [ho, resolve, invoke, builtin, Sem.run_bind, Sem.run_pure, Result.andThen_ok, List.map_toArray, List.map_cons, List.map_nil, hx, hy, hr]
section
variable {W w : World} {g mb k mn base : Nat} {b : Option Addr} {n c : Nat} {fr tt ct : Int} {V : Value} {m : Nat} {xs : List Value} {ns : List (List UInt8)}
set_option maxHeartbeats 8000000 in
theorem keep_ok (h : LK W w g mb k mn base b n c fr tt ct V m xs ns) (nm : ByteArray) (cs : List Value) (hl : cs.length = 31) (hn : nm.size ≤ 65536) (hgood : nameB nm = true) (hin : ¬ nm.data.toList ∈ ns) (hns : ns.length ≤ 1000) (hm : m ≤ 1000) (h1c : ∀ u ∈ (.string nm :: cs : List Value), u.oneCell' = true) :
    Calls Tryd.prog 27 #[.pointer (some ⟨g, 0, none⟩), .agg (.string nm :: cs).toArray] w fun e w' => e = .returned (.int .i64 0) ∧ ∃ V', LK W w' g mb k mn base b n c fr tt ct V' (m + 1) (xs ++ .string nm :: cs) (ns ++ [nm.data.toList]) := by
  have h1 := h.keepW nm cs
  have hnm := name_is nm (Go.Proofs.YtdcpibglbanchaaDoor.keepW w nm cs) h1.mx
  rw [hgood] at hnm
  have hnew : (Go.Proofs.YtdcpibglbanchaaDoor.keepW w nm cs).heap[w.heap.size]? = some (.cells (.string nm :: cs).toArray 59 (0, 0)) := heap_alloc_new w _
  have HL := Lib.hid h1
  have HN := Lib.hid hnew
  clear h h1 hnew
  have hsz : w.heap.size < (Go.Proofs.YtdcpibglbanchaaDoor.keepW w nm cs).heap.size := by unfold Go.Proofs.YtdcpibglbanchaaDoor.keepW; simp
  unfold Go.Proofs.YtdcpibglbanchaaDoor.keepW at hnm
  go_enter Tryd.func27, Tryd.ntmps27
  go_wp2_with fail
  refine hnm.mono ?_
  rintro e w1 ⟨rfl, hb1⟩
  have h1 := HL.out.below hb1
  have hnew1 := (hb1.block _ hsz).trans HN.out
  have c0 : w1.cell? ⟨w.heap.size, 0, none⟩ = some (.string nm) := by rw [blk_cell hnew1]; simp
  have c5 : w1.cell? ⟨g, 5, none⟩ = some (.map (some mn)) := by rw [blk_cell h1.blk]; rfl
  have h2 := h1.below ((Below.refl w1.heap.size w1).alloc (Nat.le_refl _) (.cells #[] 91))
  have hnew2 : (w1.alloc (.cells #[] 91)).heap[w.heap.size]? = some (.cells (.string nm :: cs).toArray 59 (0, 0)) := (((Below.refl w1.heap.size w1).alloc (Nat.le_refl _) (.cells #[] 91)).block _ (blk_lt hnew1)).trans hnew1
  have c0' : (w1.alloc (.cells #[] 91)).cell? ⟨w.heap.size, 0, none⟩ = some (.string nm) := by rw [blk_cell hnew2]; simp
  have c5' : (w1.alloc (.cells #[] 91)).cell? ⟨g, 5, none⟩ = some (.map (some mn)) := by rw [blk_cell h2.blk]; rfl
  have hlook := h2.nam.look hn (W := (w1.alloc (.cells #[] 91)).drew) rfl
  have hlook' := h1.nam.look hn (W := w1.drew) rfl
  rw [decide_eq_false hin] at hlook hlook'
  have H1 := Lib.hid h2
  have HN2 := Lib.hid hnew2
  clear hnm hb1 h1 h2 hnew1 hnew2 hsz
  go_wp2_with fail
  refine' cut_later (fun hT => ?_) ?_
  rotate_left
  focus
    go_region_law (fail)
    all_goals exact hT
  have H3 := Lib.hid (show LK W (w1.alloc (.cells #[] 91)).drew g mb k mn base b n c fr tt ct V m xs ns from H1.out.drew)
  have HN3 : Hid ((w1.alloc (.cells #[] 91)).drew.heap[w.heap.size]? = some (.cells (.string nm :: cs).toArray 59 (0, 0))) := Lib.hid HN2.out
  generalize (w1.alloc (.cells #[] 91)).drew = w2 at *
  clear c0 c5 c0' c5' hlook hlook' H1 HN2
  obtain ⟨w3, hup, hnm3, hg3⟩ := H3.out.nam.put (by unfold maxLen; omega) hn (W := w2.drew) rfl
  have hl4 := H3.out.drew.named hnm3 hg3
  have hne : w.heap.size ≠ mn := by
    have h5 := HL.out.o5; have h4 := HL.out.o4; have h3 := HL.out.o3
    unfold Go.Proofs.YtdcpibglbanchaaDoor.keepW at h5
    simp at h5
    omega
  have hn4 : w3.heap[w.heap.size]? = some (.cells (.string nm :: cs).toArray 59 (0, 0)) := (hg3.block _ (blk_lt HN3.out) (by intro e; injection e with e; exact hne e)).trans HN3.out
  have c5 : w2.cell? ⟨g, 5, none⟩ = some (.map (some mn)) := by rw [blk_cell H3.out.blk]; rfl
  have c0 : w2.cell? ⟨w.heap.size, 0, none⟩ = some (.string nm) := by rw [blk_cell HN3.out]; simp
  have H4 := Lib.hid (And.intro hl4 hn4)
  clear hnm3 hg3 hl4 hn4 hne
  go_wp2_with fail
  refine' cut_later (fun hT => ?_) ?_
  rotate_left
  focus
    go_region_law (fail)
    all_goals exact hT
  clear c0 c5 hup H3 HN3
  have c6 : w3.cell? ⟨g, 6, none⟩ = some V := by rw [blk_cell H4.out.1.blk]; rfl
  have c6' : (Go.Proofs.YtdcpibglbanchaaDoor.keepW w3 nm cs).cell? ⟨g, 6, none⟩ = some V := by rw [blk_cell (H4.out.1.keepW nm cs).blk]; rfl
  have hld : (Instr.loadAt 59 (.pointer (some ⟨w.heap.size, 0, none⟩))).run Tryd.prog w3.drew = .ok (.agg (.string nm :: cs).toArray) w3.drew := run_fnd w3.drew _ _ (by simp [hl]) H4.out.2
  have hk4 : LK W (Go.Proofs.YtdcpibglbanchaaDoor.keepW w3 nm cs).drew g mb k mn base b n c fr tt ct V m xs (ns ++ [nm.data.toList]) := (H4.out.1.keepW nm cs).drew
  obtain ⟨V', w4, happ, ho4, hg4, hob4⟩ := run_app32 (w := (Go.Proofs.YtdcpibglbanchaaDoor.keepW w3 nm cs).drew) base V m xs hk4.row w3.heap.size (.string nm :: cs) (by simp [hl]) (show (Go.Proofs.YtdcpibglbanchaaDoor.keepW w3 nm cs).heap[w3.heap.size]? = _ from heap_alloc_new w3 _) h1c hm hk4.o5
  obtain ⟨d6, f6', hk5⟩ := hk4.kept ho4 hg4 hob4
  obtain ⟨a', c', rfl⟩ := own_shape ho4
  have HK := Lib.hid hk5
  clear hk4 ho4 hg4 hob4 hk5 H4
  generalize hX : Value.string nm :: cs = X at *
  have hXl : X.length = 32 := by rw [← hX]; simp [hl]
  have hw5 : (w3.drew.alloc (.cells X.toArray 59)) = (Go.Proofs.YtdcpibglbanchaaDoor.keepW w3 nm cs).drew := by rw [← hX]; rfl
  generalize (Go.Proofs.YtdcpibglbanchaaDoor.keepW w3 nm cs).drew = w5 at *
  have c65 : w5.cell? ⟨g, 6, none⟩ = some V := by rw [← hw5]; rw [← hX] at *; exact c6'
  go_upto_region 7 with (fail)
  rename_i hKK
  refine wp_region_listed (C := KpC w3.drew w5 w4 (w4.setCell ⟨g, 6, none⟩ (.slice a' (m + 1) c'))) (G := GV [.pointer (some ⟨g, 0, none⟩), .pointer (some ⟨g, 0, none⟩), .pointer (some ⟨g, 0, none⟩), .pointer (some ⟨g, 6, none⟩), V, .agg X.toArray, .slice (some ⟨w3.heap.size, 0, none⟩) 1 1, .slice a' (m + 1) c', .pointer (some ⟨g, 0, none⟩), .pointer (some ⟨g, 6, none⟩)])
    (by kernel_rfl) (ordL_spec (by kernel_rfl)) (dstB_spec (by kernel_rfl)) (inB_spec (by kernel_rfl)) ⟨fun q => (by simp at q), fun q => (by simp at q), fun q => (by simp at q), by rw [if_neg (by simp), if_neg (by simp), if_neg (by simp)]; rfl⟩ ?step ?fin
  case step =>
    intro i o a1 L W1 ho hli hC hdep hsame
    have hlt11 : i < 11 := lt_of_some ho
    match i, hlt11, ho with
    | 0, _, ho =>
      obtain rfl := Option.some.inj ho
      exact step_val ho rfl (y_move rfl (hsame 0 (notB_spec (by kernel_rfl)))) rfl (hC.skip 0 (by decide) (by decide) (by decide))
    | 1, _, ho =>
      obtain rfl := Option.some.inj ho
      exact step_val ho rfl (y_move rfl (hsame 0 (notB_spec (by kernel_rfl)))) rfl (hC.skip 1 (by decide) (by decide) (by decide))
    | 2, _, ho =>
      obtain rfl := Option.some.inj ho
      exact step_val ho rfl (y_nil rfl ((hdep ⟨1, .data⟩ (by simp) rfl).2 _ _ rfl rfl)) rfl (hC.skip 2 (by decide) (by decide) (by decide))
    | 3, _, ho =>
      obtain rfl := Option.some.inj ho
      exact step_val ho rfl (y_field rfl ((hdep ⟨2, .data⟩ (by simp) rfl).2 _ _ rfl rfl) (lk_fa6 g _)) rfl (hC.skip 3 (by decide) (by decide) (by decide))
    | 4, _, ho =>
      obtain rfl := Option.some.inj ho
      have hc : W1.cell? ⟨g, 6, none⟩ = some V := by
        rcases hC.early (fun q => by have := (hC.c7 q).1; rw [hli] at this; cases this) with rfl | rfl
        · exact c6
        · exact c65
      exact step_val ho rfl (y_load rfl ((hdep ⟨3, .data⟩ (by simp) rfl).2 _ _ rfl rfl) (y_ld3 g 6 _ V _ (by kernel_rfl) hc)) rfl (hC.skip 4 (by decide) (by decide) (by decide))
    | 5, _, ho =>
      obtain rfl := Option.some.inj ho
      obtain rfl := hC.first (fun q => by have := hC.c6 q; rw [hli] at this; cases this)
      exact step_val ho rfl (y_load rfl (hsame 3 (notB_spec (by kernel_rfl))) hld) rfl (hC.skip 5 (by decide) (by decide) (by decide))
    | 6, _, ho =>
      obtain rfl := Option.some.inj ho
      obtain rfl := hC.first (fun q => by rw [hli] at q; cases q)
      have hd := hdep ⟨5, .data⟩ (by simp) rfl
      exact step_val ho rfl (y_buildF hXl rfl (hd.2 _ _ rfl rfl)) rfl (by rw [hw5]; exact hC.put6 hli hd.1)
    | 7, _, ho =>
      obtain rfl := Option.some.inj ho
      have h4 := hdep ⟨4, .data⟩ (by simp) rfl
      have h6 := hdep ⟨6, .data⟩ (by simp) rfl
      obtain ⟨rfl, hC'⟩ := hC.put7 hli h4.1 h6.1
      exact step_val ho rfl (y_app rfl (h4.2 _ _ rfl rfl) (h6.2 _ _ rfl rfl) happ) rfl hC'
    | 8, _, ho =>
      obtain rfl := Option.some.inj ho
      exact step_val ho rfl (y_nil rfl ((hdep ⟨0, .data⟩ (by simp) rfl).2 _ _ rfl rfl)) rfl (hC.skip 8 (by decide) (by decide) (by decide))
    | 9, _, ho =>
      obtain rfl := Option.some.inj ho
      exact step_val ho rfl (y_field rfl ((hdep ⟨8, .data⟩ (by simp) rfl).2 _ _ rfl rfl) (lk_fa6 g _)) rfl (hC.skip 9 (by decide) (by decide) (by decide))
    | 10, _, ho =>
      obtain rfl := Option.some.inj ho
      have h7 := hdep ⟨7, .data⟩ (by simp) rfl
      obtain ⟨rfl, hC'⟩ := hC.putx hli h7.1
      exact step_none ho rfl rfl (y_store rfl ((hdep ⟨9, .data⟩ (by simp) rfl).2 _ _ rfl rfl) (h7.2 _ _ rfl rfl) (y_stF g 6 a' (m + 1) c' V _ d6 f6')) hC'
    | n + 11, h, _ => exact absurd h (by omega)
  case fin =>
    intro a1 L W1 hall hC hgood hsame hsize hdef
    obtain rfl := hC.last (hall 10 (by decide))
    refine hKK _ _ ?_
    have hact := act_of_same (List.range 42) (fun t => decide (32 ≤ t ∧ t ≤ 41)) (by kernel_rfl) (fun t ht => hsame t (wrB_spec (wr := fun t => decide (32 ≤ t ∧ t ≤ 41)) (by kernel_rfl) ht)) hsize hdef
    rw [show List.range 42 = [0, 1, 2, 3, 4, 5, 6, 7, 8, 9, 10, 11, 12, 13, 14, 15, 16, 17, 18, 19, 20, 21, 22, 23, 24, 25, 26, 27, 28, 29, 30, 31, 32, 33, 34, 35, 36, 37, 38, 39, 40, 41] by decide] at hact
    generalize a1.eval = f at hact
    simp only [List.map_cons, List.map_nil] at hact
    simp [Act.eval] at hact
    rw [hact]
    clear hact
    go_wp2_with fail
    go_ret
    exact ⟨rfl, _, HK.out⟩
end
end Go.Proofs.YtdcpibglbanchaaDoor
