/- An entry is kept: contract of keep. Condition: the variable internal/bytealg.MaxLen has a value. -/
import Derived.Test.YtimojfkpcmphfaaDoorDf
import Derived.Great.BuildSlice
import Derived.Deep.MidRow
set_option linter.unusedVariables false
set_option maxRecDepth 100000
namespace Go.Proofs.YtimojfkpcmphfaaDoor
open Go.RowKit Go.Maps Go.ChangeMaps

theorem cut_later {P Q : Prop} (hm : P → Q) (hT : P) : Q := hm hT
section
variable {W w : World} {g mb k mn base : Nat} {b : Option Addr} {n c : Nat} {fr tt ct : Int} {V : Value} {m : Nat} {xs : List Value} {ns : List (List UInt8)}
theorem LK.kept {w4 : World} {V' : Value} {ys : List Value} (h : LK W w g mb k mn base b n c fr tt ct V m xs ns) (ho : w4.ownsRow base 73 32 V' (m + 1) (xs ++ ys)) (hg : w.grownBy w4 V.ownBlock) (hob : V'.ownBlock = V.ownBlock ∨ V'.ownBlock = some w.heap.size) :
    w4.cell? ⟨g, 6, none⟩ = some V ∧ w4.frozen? ⟨g, 6, none⟩ = false ∧ LK W (w4.setCell ⟨g, 6, none⟩ V') g mb k mn base b n c fr tt ct V' (m + 1) (xs ++ ys) ns := by
  have o0 := h.o0; have o1 := h.o1; have o2 := h.o2; have o3 := h.o3; have o4 := h.o4; have o5 := h.o5; have s1 := hg.size; have s2 := h.sig.lt
  have hq : ∀ q, V.ownBlock = some q → base ≤ q := fun q e => by
    rcases h.row.2 with ⟨e1, _⟩ | ⟨g1, cap, cur, e1, e2, _⟩
    · rw [e1] at e; cases e
    · rw [e1] at e; simp [Value.ownBlock] at e; omega
  have hkeep : ∀ i, i < base → w4.heap[i]? = w.heap[i]? := fun i hi => hg.block i (by omega) (fun e => by have := hq i e.symm; omega)
  have hb4 : w4.heap[g]? = _ := (hkeep g o4).trans h.blk
  have hset : ∀ i, i ≠ g → (w4.setCell ⟨g, 6, none⟩ V').heap[i]? = w4.heap[i]? := fun i hi => Below.heap_setCell _ ⟨g, 6, none⟩ _ i hi
  have hsz : (w4.setCell ⟨g, 6, none⟩ V').heap.size = w4.heap.size := by simp [World.setCell]
  refine ⟨by rw [blk_cell hb4]; rfl, blk_free hb4 6, (h.low.grown hg h.low.size (fun q e => by have := hq q e; omega)).setCell (p := ⟨g, 6, none⟩) (by show W.heap.size ≤ g; omega) V', o0, o1, o2, o3, o4, by rw [hsz]; omega, (blk_set hb4 6 V').trans rfl, h.sig.blk ((hset mb (by omega)).trans (hkeep mb (by omega))), h.nam.keep ((hset mn (by omega)).trans (hkeep mn (by omega))), own_other ho (fun e => ?_) 6 V', by rw [hsz]; omega, ?_⟩
  · rcases hob with h1 | h1
    · rw [h1] at e; have := hq g e; omega
    · rw [h1] at e; injection e with e; omega
  · obtain ⟨hm1, mm, hm2⟩ := h.mx
    refine ⟨mm, ?_⟩
    have : (w4.setCell ⟨g, 6, none⟩ V').heap[0]? = w.heap[0]? := (hset 0 (by omega)).trans (hkeep 0 (by omega))
    rw [← hm2]
    simp [World.cell?, this]
theorem fnd_info : (Tryd.prog.info? 73).bind (fun i => i.zero.map fun z => (i.size, i.bytes, z.cells.size)) = some (32, 96, 32) := by kernel_rfl
theorem fnd_parts : ∃ i z, Tryd.prog.info? 73 = some i ∧ i.zero = some z ∧ i.size = 32 ∧ i.bytes = 96 ∧ z.cells.size = 32 := by
  have h := fnd_info
  cases hi : Tryd.prog.info? 73 with
  | none => rw [hi] at h; cases h
  | some i =>
    rw [hi] at h
    cases hz : i.zero with
    | none => simp [hz] at h
    | some z =>
      simp [hz] at h
      exact ⟨i, z, rfl, hz, h.1, h.2.1, h.2.2⟩
theorem step_fnd {w : World} {ops : Array Oper} {o : Oper} {a : Act} {K : Act → World → Prop} {Q : Exit → Act → World → Prop} {E : Prop} (hgd : o.guard = none) (x : Operand) (ho : o.op = .load 73 x) (q : Nat) (hx : a.eval x = .pointer (some ⟨q, 0, none⟩))
    (cs : List Value) (hl : cs.length = 32) (hh : w.heap[q]? = some (.cells cs.toArray 73 (0, 0))) (h : K (a.put o.dst (.agg cs.toArray)) w) :
    if Region.wanted o (yielded ops a.tmps) = true then Oper.wp Tryd.prog o a w K Q else E := by
  have hw : Region.wanted o (yielded ops a.tmps) = true := by simp [Region.wanted, hgd]
  rw [if_pos hw]
  obtain ⟨i, z, hi, _, h32, _, _⟩ := fnd_parts
  exact wp_load_mid 73 x ho q 0 hx cs _ (fun j v hv => by rw [Nat.zero_add, blk_cell hh]; simpa using hv) Tryd.underlying73 rfl (by rw [hi, hl]; exact congrArg some h32) h
theorem step_app32 {w : World} {ops : Array Oper} {o : Oper} {a : Act} {K : Act → World → Prop} {Q : Exit → Act → World → Prop} {E : Prop} (hgd : o.guard = none) (s x : Operand)
    (ho : o.op = .call { callee := .builtin .append, args := #[s, x], argTypes := #[44, 44] }) (base : Nat) (v : Value) (n : Nat) (xs : List Value) (hs : a.eval s = v) (hown : w.ownsRow base 73 32 v n xs)
    (q : Nat) (cs : List Value) (hl : cs.length = 32) (hx : a.eval x = .slice (some ⟨q, 0, none⟩) 1 1) (hh : w.heap[q]? = some (.cells cs.toArray 73 (0, 0))) (h1 : ∀ u ∈ cs, u.oneCell' = true) (hn : n ≤ 1000) (hbase : base ≤ w.heap.size)
    (h : ∀ v' w', w'.ownsRow base 73 32 v' (n + 1) (xs ++ cs) → w.grownBy w' v.ownBlock → (v'.ownBlock = v.ownBlock ∨ v'.ownBlock = some w.heap.size) → K (a.put o.dst v') w') :
    if Region.wanted o (yielded ops a.tmps) = true then Oper.wp Tryd.prog o a w K Q else E := by
  have hw : Region.wanted o (yielded ops a.tmps) = true := by simp [Region.wanted, hgd]
  rw [if_pos hw]
  obtain ⟨i, z, hi, hz, h32, h96, hzs⟩ := fnd_parts
  obtain ⟨v', w', hr, h2, h3, _, h4⟩ := run_append_own_at (P := Tryd.prog) (w := w) base 44 o.type 73 i z 32 96 Tryd.underlying44 hi hz h32 h96 hzs (by decide) v n xs hown ⟨q, 0, none⟩ 1 1 cs (by rw [hl]) (fun j u hu => by
    rw [show Addr.add ⟨q, 0, none⟩ j = ⟨q, j, none⟩ by simp [Addr.add]; exact fun h => h.symm, blk_cell hh]; simpa using hu) h1 (by unfold maxLen; omega) (by omega) hbase
  unfold Oper.wp execOp
  simp only [ho, resolve, invoke, builtin, Sem.run_bind, Sem.run_pure, Result.andThen_ok, List.map_toArray, List.map_cons, List.map_nil, hs, hx, hr]
  exact h v' w' h2 h3 h4
theorem fold_fill (vs : List Value) : ∀ (n : Nat) (z : Array Value), n + vs.length ≤ z.size → ((vs.zipIdx n).foldl (fun (cs : Array Value) (x : Value × Nat) => cs.setIfInBounds (0 + x.2) x.1) z).toList = z.toList.take n ++ vs ++ z.toList.drop (n + vs.length) := by
  induction vs with
  | nil => intro n z h; simp
  | cons v vs ih =>
    intro n z h
    rw [List.zipIdx_cons, List.foldl_cons]
    have hs : (z.setIfInBounds (0 + n) v).size = z.size := by simp
    rw [ih (n + 1) _ (by rw [hs]; simp at h; omega), Nat.zero_add, Array.toList_setIfInBounds]
    simp only [List.length_cons] at h ⊢
    have hlt : n < z.toList.length := by rw [Array.length_toList]; omega
    rw [List.take_set, List.drop_set_of_lt (by omega), List.take_succ_eq_append_getElem hlt, List.set_append]
    rw [if_neg (by rw [List.length_take]; omega)]
    have e : n - (List.take n z.toList).length = 0 := by rw [List.length_take]; omega
    rw [e]
    simp only [List.set_cons_zero, List.append_assoc, List.cons_append, List.nil_append]
    rw [show n + 1 + vs.length = n + (vs.length + 1) by omega]
theorem fill_one (k : Nat) (cs : List Value) (hl : cs.length = k) (z : Array Value) (hz : z.size = k) : Instr.fill (fun i => some (i * k, k)) z [(0, .agg cs.toArray)] = some cs.toArray := by
  have hf := fold_fill cs 0 z (by omega)
  rw [List.take_zero, List.nil_append, List.drop_eq_nil_of_le (by rw [Array.length_toList]; omega), List.append_nil] at hf
  unfold Instr.fill
  simp only [Value.cells, List.size_toArray, hl, Nat.zero_mul, Nat.zero_add, hz]
  simp only [ne_eq, not_true_eq_false, decide_false, Bool.false_or, gt_iff_lt, Nat.lt_irrefl, Instr.fill]
  rw [if_neg (by decide)]
  refine congrArg some (Array.ext' ?_)
  rw [← Array.foldl_toList, Array.toList_zipIdx]
  simp only [Nat.zero_add] at hf
  exact hf
theorem run_fnd (W : World) (q : Nat) (cs : List Value) (hl : cs.length = 32) (hh : W.heap[q]? = some (.cells cs.toArray 73 (0, 0))) : (Instr.loadAt 73 (.pointer (some ⟨q, 0, none⟩))).run Tryd.prog W = .ok (.agg cs.toArray) W := by
  obtain ⟨i, z, hi, _, h32, _, _⟩ := fnd_parts
  exact run_loadAt_mid W q 0 73 cs _ (fun j v hv => by rw [Nat.zero_add, blk_cell hh]; simpa using hv) Tryd.underlying73 rfl (by rw [hi, hl]; exact congrArg some h32)
theorem run_app32 {w : World} (base : Nat) (v : Value) (n : Nat) (xs : List Value) (hown : w.ownsRow base 73 32 v n xs)
    (q : Nat) (cs : List Value) (hl : cs.length = 32) (hh : w.heap[q]? = some (.cells cs.toArray 73 (0, 0))) (h1 : ∀ u ∈ cs, u.oneCell' = true) (hn : n ≤ 1000) (hbase : base ≤ w.heap.size) :
    ∃ v' w', (Builtin.append_ #[44, 44] 44 #[v, .slice (some ⟨q, 0, none⟩) 1 1]).run Tryd.prog w = .ok v' w' ∧ w'.ownsRow base 73 32 v' (n + 1) (xs ++ cs) ∧ w.grownBy w' v.ownBlock ∧ (v'.ownBlock = v.ownBlock ∨ v'.ownBlock = some w.heap.size) := by
  obtain ⟨i, z, hi, hz, h32, h96, hzs⟩ := fnd_parts
  obtain ⟨v', w', hr, h2, h3, _, h4⟩ := run_append_own_at (P := Tryd.prog) (w := w) base 44 44 73 i z 32 96 Tryd.underlying44 hi hz h32 h96 hzs (by decide) v n xs hown ⟨q, 0, none⟩ 1 1 cs (by rw [hl]) (fun j u hu => by
    rw [show Addr.add ⟨q, 0, none⟩ j = ⟨q, j, none⟩ by simp [Addr.add]; exact fun h => h.symm, blk_cell hh]; simpa using hu) h1 (by unfold maxLen; omega) (by omega) hbase
  exact ⟨v', w', hr, h2, h3, h4⟩
end
end Go.Proofs.YtimojfkpcmphfaaDoor
