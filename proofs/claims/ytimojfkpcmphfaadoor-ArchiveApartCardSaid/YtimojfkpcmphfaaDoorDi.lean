/- A central record is read: contract of record. Conditions: the bytes are bytes; the variable internal/bytealg.MaxLen has a value. -/
import Derived.Test.YtimojfkpcmphfaaDoorDh
import Derived.Test.YtimojfkpcmphfaaDoorDp
import Derived.Laws.BytesString
import Derived.Laws.BytesArg
set_option linter.unusedVariables false
set_option maxRecDepth 100000
namespace Go.Proofs.YtimojfkpcmphfaaDoor
open Go.RowKit Go.Maps Go.ChangeMaps

namespace DI
theorem cut_h (a : Option Addr) (n c : Nat) (l : List Int) (hn : l.length = n) (hc : n ≤ c) (hA : a = none → n = 0 ∧ c = 0) (hi : Nat) (h2 : hi ≤ n) :
    ∃ a' c', (∀ W, (Instr.sliceAt 22 (.slice a n c) none (some (.int .i64 hi)) none).run Tryd.prog W = .ok (.slice a' hi c') W) ∧ (∀ W, (Instr.slice 22 (.slice a n c) none (some (.int .i64 hi)) none).run Tryd.prog W = .ok (.slice a' hi c') W) ∧
      (∀ W B, Bs W B a l → Bs W B a' (l.take hi)) ∧ hi ≤ c' ∧ c' ≤ c ∧ (a' = none → hi = 0 ∧ c' = 0) := by
  subst hn
  have hr : ∀ W, (Instr.slice 22 (.slice a l.length c) none (some (.int .i64 hi)) none).run Tryd.prog W = .ok (.slice (if c = 0 then a else a.map (·.add (0 * 1))) hi (c - 0)) W := fun W => by
    rw [run_slice_h W 22 a l.length c elem_u8 .i64 hi (by omega) (by omega), sized_u8]
    simp [Result.andThen, sliced]
  refine ⟨_, c - 0, fun W => ?_, hr, fun W B hb => ?_, by omega, by omega, fun h => ?_⟩
  · rw [run_sliceAt_slice _ _ _ _ _ _ elem_u8]; exact hr W
  · have := bs_piece 0 hi (Nat.zero_le _) h2 hc W B hb
    unfold cutOf at this
    simpa using this
  · have : a = none := by
      cases a with
      | none => rfl
      | some x => split at h <;> simp at h
    have := hA this
    omega
end DI
theorem wpList_val {P : Program} {ops : Array Oper} {rest : List Oper} {o : Oper} {a : Act} {w w' : World} {Q : Exit → Act → World → Prop} {v : Value} (hg : o.guard = none) (hrun : (execOp a.eval o).run P w = .ok (.value v) w') (h : wpList P ops Q rest (a.put o.dst v) w') : wpList P ops Q (o :: rest) a w :=
  wpList_plain hg fun _ hK => op_value hrun (hK _ _ h)
theorem wpList_skp {P : Program} {ops : Array Oper} {rest : List Oper} {o : Oper} {a : Act} {w w' : World} {Q : Exit → Act → World → Prop} (hg : o.guard = none) (hrun : (execOp a.eval o).run P w = .ok .skip w') (h : wpList P ops Q rest (a.put o.dst undef) w') : wpList P ops Q (o :: rest) a w :=
  wpList_plain hg fun _ hK => op_skip hrun (hK _ _ h)
theorem fnd_info32 : (Tryd.prog.info? 73).map (·.size) = some 32 := by kernel_rfl
theorem fnd_ld {ops : Array Oper} {rest : List Oper} {op : Oper} {a : Act} {W : World} {Q : Exit → Act → World → Prop} {x : Operand} {cs : List Value} (hgd : op.guard = none) (ho : op.op = .load 73 x) (b : Nat) (hx : a.eval x = .pointer (some ⟨b, 0, none⟩)) (hs : cs.length = 32) (hh : W.heap[b]? = some (.cells cs.toArray 73 (0, 0)))
    (h : wpList Tryd.prog ops Q rest (a.put op.dst (.agg cs.toArray)) W) : wpList Tryd.prog ops Q (op :: rest) a W :=
  wpList_val hgd (y_load ho hx (run_fnd W b cs hs hh)) h
theorem fnd_st {ops : Array Oper} {rest : List Oper} {op : Oper} {a : Act} {W : World} {Q : Exit → Act → World → Prop} {x y : Operand} {cs old : Array Value} (hgd : op.guard = none) (ho : op.op = .store 73 x y) (b : Nat) (hx : a.eval x = .pointer (some ⟨b, 0, none⟩)) (hy : a.eval y = .agg cs) (hs : cs.size = 32) (ho' : old.size = 32) (h1 : cs.all (·.oneCell') = true) (hh : W.heap[b]? = some (.cells old 73 (0, 0)))
    (h : ∀ W', W'.heap[b]? = some (.cells cs 73 (0, 0)) → Only b W W' → wpList Tryd.prog ops Q rest (a.put op.dst undef) W') : wpList Tryd.prog ops Q (op :: rest) a W :=
  wpList_skp hgd (y_store ho hx hy (by
    simp only [Instr.storeAt, Instr.sureAddr, Sem.run_bind, Sem.run_pure, Result.andThen_ok, run_storeVar_row W b 73 73 old cs hh (by rw [hs]; exact fnd_info32) (by omega) h1])) (h _ (setRow_heap _ _ _ _ _ _ hh) ⟨rfl, rfl, rfl, by simp, fun k hk hne => setRow_other W b k cs (fun e => hne (by rw [e]))⟩)
/-- bytes as a text -/
theorem conv_bs {w : World} {B : Nat} {a : Option Addr} {l : List Int} {n : Nat} (c : Nat) (hb : Bs w B a l) (hn : l.length = n) : (convert 22 9 (.slice a n c)).run Tryd.prog w = .ok (.string (strOfNums l)) w := by
  rcases Nat.eq_zero_or_pos n with h0 | h0
  · subst h0
    have hl : l = [] := List.eq_nil_of_length_eq_zero hn
    subst hl
    cases a with
    | none => exact run_convert_bytes_nil w 22 5 Tryd.underlying22 Tryd.underlying5 0 c 9 Tryd.underlying9
    | some ad =>
      have hl : (loadCells ad 0).run Tryd.prog w = .ok (([] : List Int).map (Value.int .u8)).toArray w := run_loadCells_list (P := Tryd.prog) w ad [] (fun j v hj => by simp at hj)
      rw [run_convert_bytes_string w 22 9 5 _ 0 c Tryd.underlying22 Tryd.underlying5 Tryd.underlying9, run_bytesToString w _ 0 c [] hl]
      rfl
  · obtain ⟨bb, off, rfl, _, hcell⟩ := hb.2 (by omega)
    exact run_convert_bytes_arg (P := Tryd.prog) w 22 5 Tryd.underlying22 Tryd.underlying5 bb off n c l hn (fun i hi => hcell i (by omega)) 9 Tryd.underlying9
/-- the cells of a found whose end is not known yet -/
def fx (a0 a1 a2 a3 a4 a5 a6 : Value) (ts : List Value) : List Value := [a0, a1, a2, a3, a4, a5, a6] ++ ts ++ [.int .i64 0]
/-- an empty found with 24 bytes told -/
abbrev fnd0 (ts : List Value) : List Value := fx (.string ⟨#[]⟩) (.int .i64 0) (.int .i64 0) (.int .i64 0) (.int .i64 0) (.int .i64 0) (.int .i64 0) ts
section
variable {a0 a1 a2 a3 a4 a5 a6 u : Value} {ts : List Value}
theorem fx_len (h : ts.length = 24) : (fx a0 a1 a2 a3 a4 a5 a6 ts).length = 32 := by unfold fx; simp [h]
theorem fx_0 : (fx a0 a1 a2 a3 a4 a5 a6 ts).toArray.setIfInBounds 0 u = (fx u a1 a2 a3 a4 a5 a6 ts).toArray := by apply Array.ext'; simp [fx]
theorem fx_1 : (fx a0 a1 a2 a3 a4 a5 a6 ts).toArray.setIfInBounds 1 u = (fx a0 u a2 a3 a4 a5 a6 ts).toArray := by apply Array.ext'; simp [fx]
theorem fx_2 : (fx a0 a1 a2 a3 a4 a5 a6 ts).toArray.setIfInBounds 2 u = (fx a0 a1 u a3 a4 a5 a6 ts).toArray := by apply Array.ext'; simp [fx]
theorem fx_3 : (fx a0 a1 a2 a3 a4 a5 a6 ts).toArray.setIfInBounds 3 u = (fx a0 a1 a2 u a4 a5 a6 ts).toArray := by apply Array.ext'; simp [fx]
theorem fx_4 : (fx a0 a1 a2 a3 a4 a5 a6 ts).toArray.setIfInBounds 4 u = (fx a0 a1 a2 a3 u a5 a6 ts).toArray := by apply Array.ext'; simp [fx]
theorem fx_6 : (fx a0 a1 a2 a3 a4 a5 a6 ts).toArray.setIfInBounds 6 u = (fx a0 a1 a2 a3 a4 a5 u ts).toArray := by apply Array.ext'; simp [fx]
theorem fx_one (h0 : a0.oneCell' = true) (h1 : a1.oneCell' = true) (h2 : a2.oneCell' = true) (h3 : a3.oneCell' = true) (h4 : a4.oneCell' = true) (h5 : a5.oneCell' = true) (h6 : a6.oneCell' = true) (h : ∀ u ∈ ts, u.oneCell' = true) : ∀ u ∈ fx a0 a1 a2 a3 a4 a5 a6 ts, u.oneCell' = true := fun v hv => by
  unfold fx at hv
  simp only [List.cons_append, List.nil_append, List.mem_cons, List.mem_append, List.not_mem_nil, or_false] at hv
  rcases hv with rfl | rfl | rfl | rfl | rfl | rfl | rfl | hv | rfl
  all_goals first | assumption | exact h v hv | rfl
end
theorem strOf_size (xs : List Int) : (strOfNums xs).size = xs.length := by
  unfold strOfNums; simp [ByteArray.size]
/-- keep, whatever the name -/
def keepE (nm : ByteArray) (ns : List (List UInt8)) : Int := if nameB nm = false then 13 else if nm.data.toList ∈ ns then 14 else 0
theorem keep_any {W w : World} {g mb k mn base : Nat} {b : Option Addr} {n c : Nat} {fr tt ct : Int} {V : Value} {m : Nat} {xs : List Value} {ns : List (List UInt8)} (h : LK W w g mb k mn base b n c fr tt ct V m xs ns) (nm : ByteArray) (cs : List Value) (hl : cs.length = 31) (hn : nm.size ≤ 65536) (hns : ns.length ≤ 1000) (hm : m ≤ 1000) (h1c : ∀ u ∈ (.string nm :: cs : List Value), u.oneCell' = true) :
    Calls Tryd.prog 43 #[.pointer (some ⟨g, 0, none⟩), .agg (.string nm :: cs).toArray] w fun e w' => e = .returned (.int .i64 (keepE nm ns)) ∧ Below W.heap.size W w' ∧ (keepE nm ns = 0 → ∃ V', LK W w' g mb k mn base b n c fr tt ct V' (m + 1) (xs ++ .string nm :: cs) (ns ++ [nm.data.toList])) := by
  unfold keepE
  cases hb : nameB nm with
  | false =>
    rw [if_pos rfl]
    exact (keep_bad h nm cs hl hn hb).mono fun e w' ⟨h1, h2⟩ => ⟨h1, h2.low, fun h => (by cases h)⟩
  | true =>
    rw [if_neg (by simp)]
    by_cases hin : nm.data.toList ∈ ns
    · rw [if_pos hin]
      exact (keep_twice h nm cs hl hn hb hin).mono fun e w' ⟨h1, h2⟩ => ⟨h1, h2.low, fun h => (by cases h)⟩
    · rw [if_neg hin]
      exact (keep_ok h nm cs hl hn hb hin hns hm h1c).mono fun e w' ⟨h1, V', h2⟩ => ⟨h1, h2.low, fun _ => ⟨V', h2⟩⟩
theorem bld24 (a0 a1 a2 a3 a4 a5 a6 a7 a8 a9 a10 a11 a12 a13 a14 a15 a16 a17 a18 a19 a20 a21 a22 a23 : Value) (w : World) : (Instr.build 73 #[(1, .agg #[a0, a1, a2, a3, a4, a5, a6, a7, a8, a9, a10, a11, a12, a13, a14, a15, a16, a17, a18, a19, a20, a21, a22, a23])]).run Tryd.prog w = .ok (.agg (fnd0 [a0, a1, a2, a3, a4, a5, a6, a7, a8, a9, a10, a11, a12, a13, a14, a15, a16, a17, a18, a19, a20, a21, a22, a23]).toArray) w := by kernel_rfl
theorem y_bldF {a : Act} {w : World} {o : Oper} {k : Nat} {ts : List Value} (hl : ts.length = 24) (ho : o.op = .build 73 #[(1, .tmp k)]) (hx : a.eval (.tmp k) = .agg ts.toArray) : (execOp a.eval o).run Tryd.prog w = .ok (.value (.agg (fnd0 ts).toArray)) w := by
  have hr : (Instr.build 73 #[(1, .agg ts.toArray)]).run Tryd.prog w = .ok (.agg (fnd0 ts).toArray) w := by
    match ts, hl with
    | [a0, a1, a2, a3, a4, a5, a6, a7, a8, a9, a10, a11, a12, a13, a14, a15, a16, a17, a18, a19, a20, a21, a22, a23], _ => exact bld24 a0 a1 a2 a3 a4 a5 a6 a7 a8 a9 a10 a11 a12 a13 a14 a15 a16 a17 a18 a19 a20 a21 a22 a23 w
  unfold execOp
  simp only [ho, List.map_toArray, List.map, hx, Sem.run_bind, hr]
  rfl
end Go.Proofs.YtimojfkpcmphfaaDoor
