/- A central record is read: contract of record. Conditions: the bytes are bytes; the variable internal/bytealg.MaxLen has a value. A central record is read: contract of record. Conditions: the bytes are bytes; the variable internal/bytealg.MaxLen has a value. The central records are read: contract of central. Conditions: the bytes are bytes; the variable internal/bytealg.MaxLen has a value. -/
import Derived.Test.YtdcpibglbanchaaDoorDh
import Derived.Test.YtdcpibglbanchaaDoorDp
import Derived.Laws.BytesString
import Derived.Laws.BytesArg
set_option linter.unusedVariables false
set_option maxRecDepth 100000
namespace Go.Proofs.YtdcpibglbanchaaDoor
open Go.RowKit Go.Maps Go.ChangeMaps

namespace DI
theorem cut_h (a : Option Addr) (n c : Nat) (l : List Int) (hn : l.length = n) (hc : n ≤ c) (hA : a = none → n = 0 ∧ c = 0) (hi : Nat) (h2 : hi ≤ n) :
    ∃ a' c', (∀ W, (Instr.sliceAt 22 (.slice a n c) none (some (.int .i64 hi)) none).run Tryd.prog W = .ok (.slice a' hi c') W) ∧ (∀ W, (Instr.slice 22 (.slice a n c) none (some (.int .i64 hi)) none).run Tryd.prog W = .ok (.slice a' hi c') W) ∧
      (∀ W B, Bs W B a l → Bs W B a' (l.take hi)) ∧ hi ≤ c' ∧ c' ≤ c ∧ (a' = none → hi = 0 ∧ c' = 0) := by
  subst hn
  have hr : ∀ W, (Instr.slice 22 (.slice a l.length c) none (some (.int .i64 hi)) none).run Tryd.prog W = .ok (.slice (if c = 0 then a else a.map (·.add (0 * 1))) hi (c - 0)) W := fun W => by
    rw [run_slice_h W 22 a l.length c elem_u8 .i64 hi (by omega) (by omega), sized_u8]
    simp [Result.andThen, sliced]
  refine ⟨_, c - 0, fun W => ?_, hr, fun W B hb => ?_, by omega, by omega, fun h => ?_⟩
  · rw [run_sliceAt_slice _ _ _ _ _ _ elem_u8]; exact hr W
  · have := bs_piece 0 hi (Nat.zero_le _) h2 hc W B hb
    unfold cutOf at this
    simpa using this
  · have : a = none := by
      cases a with
      | none => rfl
      | some x => split at h <;> simp at h
    have := hA this
    omega
end DI
theorem wpList_val {P : Program} {ops : Array Oper} {rest : List Oper} {o : Oper} {a : Act} {w w' : World} {Q : Exit → Act → World → Prop} {v : Value} (hg : o.guard = none) (hrun : (execOp a.eval o).run P w = .ok (.value v) w') (h : wpList P ops Q rest (a.put o.dst v) w') : wpList P ops Q (o :: rest) a w :=
  wpList_plain hg fun _ hK => op_value hrun (hK _ _ h)
theorem wpList_skp {P : Program} {ops : Array Oper} {rest : List Oper} {o : Oper} {a : Act} {w w' : World} {Q : Exit → Act → World → Prop} (hg : o.guard = none) (hrun : (execOp a.eval o).run P w = .ok .skip w') (h : wpList P ops Q rest (a.put o.dst undef) w') : wpList P ops Q (o :: rest) a w :=
  wpList_plain hg fun _ hK => op_skip hrun (hK _ _ h)
theorem fnd_info32 : (Tryd.prog.info? 59).map (·.size) = some 32 := by kernel_rfl
theorem fnd_ld {ops : Array Oper} {rest : List Oper} {op : Oper} {a : Act} {W : World} {Q : Exit → Act → World → Prop} {x : Operand} {cs : List Value} (hgd : op.guard = none) (ho : op.op = .load 59 x) (b : Nat) (hx : a.eval x = .pointer (some ⟨b, 0, none⟩)) (hs : cs.length = 32) (hh : W.heap[b]? = some (.cells cs.toArray 59 (0, 0)))
    (h : wpList Tryd.prog ops Q rest (a.put op.dst (.agg cs.toArray)) W) : wpList Tryd.prog ops Q (op :: rest) a W :=
  wpList_val hgd (y_load ho hx (run_fnd W b cs hs hh)) h
theorem fnd_st {ops : Array Oper} {rest : List Oper} {op : Oper} {a : Act} {W : World} {Q : Exit → Act → World → Prop} {x y : Operand} {cs old : Array Value} (hgd : op.guard = none) (ho : op.op = .store 59 x y) (b : Nat) (hx : a.eval x = .pointer (some ⟨b, 0, none⟩)) (hy : a.eval y = .agg cs) (hs : cs.size = 32) (ho' : old.size = 32) (h1 : cs.all (·.oneCell') = true) (hh : W.heap[b]? = some (.cells old 59 (0, 0)))
    (h : ∀ W', W'.heap[b]? = some (.cells cs 59 (0, 0)) → Only b W W' → wpList Tryd.prog ops Q rest (a.put op.dst undef) W') : wpList Tryd.prog ops Q (op :: rest) a W :=
  wpList_skp hgd (y_store ho hx hy (by
    simp only [Instr.storeAt, Instr.sureAddr, Sem.run_bind, Sem.run_pure, Result.andThen_ok, run_storeVar_row W b 59 59 old cs hh (by rw [hs]; exact fnd_info32) (by omega) h1])) (h _ (setRow_heap _ _ _ _ _ _ hh) ⟨rfl, rfl, rfl, by simp, fun k hk hne => setRow_other W b k cs (fun e => hne (by rw [e]))⟩)
/-- bytes as a text -/
theorem conv_bs {w : World} {B : Nat} {a : Option Addr} {l : List Int} {n : Nat} (c : Nat) (hb : Bs w B a l) (hn : l.length = n) : (convert 22 9 (.slice a n c)).run Tryd.prog w = .ok (.string (strOfNums l)) w := by
  rcases Nat.eq_zero_or_pos n with h0 | h0
  · subst h0
    have hl : l = [] := List.eq_nil_of_length_eq_zero hn
    subst hl
    cases a with
    | none => exact run_convert_bytes_nil w 22 5 Tryd.underlying22 Tryd.underlying5 0 c 9 Tryd.underlying9
    | some ad =>
      have hl : (loadCells ad 0).run Tryd.prog w = .ok (([] : List Int).map (Value.int .u8)).toArray w := run_loadCells_list (P := Tryd.prog) w ad [] (fun j v hj => by simp at hj)
      rw [run_convert_bytes_string w 22 9 5 _ 0 c Tryd.underlying22 Tryd.underlying5 Tryd.underlying9, run_bytesToString w _ 0 c [] hl]
      rfl
  · obtain ⟨bb, off, rfl, _, hcell⟩ := hb.2 (by omega)
    exact run_convert_bytes_arg (P := Tryd.prog) w 22 5 Tryd.underlying22 Tryd.underlying5 bb off n c l hn (fun i hi => hcell i (by omega)) 9 Tryd.underlying9
/-- the cells of a found whose end is not known yet -/
def fx (a0 a1 a2 a3 a4 a5 a6 : Value) (ts : List Value) : List Value := [a0, a1, a2, a3, a4, a5, a6] ++ ts ++ [.int .i64 0]
/-- an empty found with 24 bytes told -/
abbrev fnd0 (ts : List Value) : List Value := fx (.string ⟨#[]⟩) (.int .i64 0) (.int .i64 0) (.int .i64 0) (.int .i64 0) (.int .i64 0) (.int .i64 0) ts
section
variable {a0 a1 a2 a3 a4 a5 a6 u : Value} {ts : List Value}
theorem fx_len (h : ts.length = 24) : (fx a0 a1 a2 a3 a4 a5 a6 ts).length = 32 := by unfold fx; simp [h]
theorem fx_0 : (fx a0 a1 a2 a3 a4 a5 a6 ts).toArray.setIfInBounds 0 u = (fx u a1 a2 a3 a4 a5 a6 ts).toArray := by apply Array.ext'; simp [fx]
theorem fx_1 : (fx a0 a1 a2 a3 a4 a5 a6 ts).toArray.setIfInBounds 1 u = (fx a0 u a2 a3 a4 a5 a6 ts).toArray := by apply Array.ext'; simp [fx]
theorem fx_2 : (fx a0 a1 a2 a3 a4 a5 a6 ts).toArray.setIfInBounds 2 u = (fx a0 a1 u a3 a4 a5 a6 ts).toArray := by apply Array.ext'; simp [fx]
theorem fx_3 : (fx a0 a1 a2 a3 a4 a5 a6 ts).toArray.setIfInBounds 3 u = (fx a0 a1 a2 u a4 a5 a6 ts).toArray := by apply Array.ext'; simp [fx]
theorem fx_4 : (fx a0 a1 a2 a3 a4 a5 a6 ts).toArray.setIfInBounds 4 u = (fx a0 a1 a2 a3 u a5 a6 ts).toArray := by apply Array.ext'; simp [fx]
theorem fx_6 : (fx a0 a1 a2 a3 a4 a5 a6 ts).toArray.setIfInBounds 6 u = (fx a0 a1 a2 a3 a4 a5 u ts).toArray := by apply Array.ext'; simp [fx]
theorem fx_one (h0 : a0.oneCell' = true) (h1 : a1.oneCell' = true) (h2 : a2.oneCell' = true) (h3 : a3.oneCell' = true) (h4 : a4.oneCell' = true) (h5 : a5.oneCell' = true) (h6 : a6.oneCell' = true) (h : ∀ u ∈ ts, u.oneCell' = true) : ∀ u ∈ fx a0 a1 a2 a3 a4 a5 a6 ts, u.oneCell' = true := fun v hv => by
  unfold fx at hv
  simp only [List.cons_append, List.nil_append, List.mem_cons, List.mem_append, List.not_mem_nil, or_false] at hv
  rcases hv with rfl | rfl | rfl | rfl | rfl | rfl | rfl | hv | rfl
  all_goals first | assumption | exact h v hv | rfl
end
theorem strOf_size (xs : List Int) : (strOfNums xs).size = xs.length := by
  unfold strOfNums; simp [ByteArray.size]
/-- keep, whatever the name -/
def keepE (nm : ByteArray) (ns : List (List UInt8)) : Int := if nameB nm = false then 13 else if nm.data.toList ∈ ns then 14 else 0
theorem keep_any {W w : World} {g mb k mn base : Nat} {b : Option Addr} {n c : Nat} {fr tt ct : Int} {V : Value} {m : Nat} {xs : List Value} {ns : List (List UInt8)} (h : LK W w g mb k mn base b n c fr tt ct V m xs ns) (nm : ByteArray) (cs : List Value) (hl : cs.length = 31) (hn : nm.size ≤ 65536) (hns : ns.length ≤ 1000) (hm : m ≤ 1000) (h1c : ∀ u ∈ (.string nm :: cs : List Value), u.oneCell' = true) :
    Calls Tryd.prog 27 #[.pointer (some ⟨g, 0, none⟩), .agg (.string nm :: cs).toArray] w fun e w' => e = .returned (.int .i64 (keepE nm ns)) ∧ Below W.heap.size W w' ∧ (keepE nm ns = 0 → ∃ V', LK W w' g mb k mn base b n c fr tt ct V' (m + 1) (xs ++ .string nm :: cs) (ns ++ [nm.data.toList])) := by
  unfold keepE
  cases hb : nameB nm with
  | false =>
    rw [if_pos rfl]
    exact (keep_bad h nm cs hl hn hb).mono fun e w' ⟨h1, h2⟩ => ⟨h1, h2.low, fun h => (by cases h)⟩
  | true =>
    rw [if_neg (by simp)]
    by_cases hin : nm.data.toList ∈ ns
    · rw [if_pos hin]
      exact (keep_twice h nm cs hl hn hb hin).mono fun e w' ⟨h1, h2⟩ => ⟨h1, h2.low, fun h => (by cases h)⟩
    · rw [if_neg hin]
      exact (keep_ok h nm cs hl hn hb hin hns hm h1c).mono fun e w' ⟨h1, V', h2⟩ => ⟨h1, h2.low, fun _ => ⟨V', h2⟩⟩
theorem bld24 (a0 a1 a2 a3 a4 a5 a6 a7 a8 a9 a10 a11 a12 a13 a14 a15 a16 a17 a18 a19 a20 a21 a22 a23 : Value) (w : World) : (Instr.build 59 #[(1, .agg #[a0, a1, a2, a3, a4, a5, a6, a7, a8, a9, a10, a11, a12, a13, a14, a15, a16, a17, a18, a19, a20, a21, a22, a23])]).run Tryd.prog w = .ok (.agg (fnd0 [a0, a1, a2, a3, a4, a5, a6, a7, a8, a9, a10, a11, a12, a13, a14, a15, a16, a17, a18, a19, a20, a21, a22, a23]).toArray) w := by kernel_rfl
theorem y_bldF {a : Act} {w : World} {o : Oper} {k : Nat} {ts : List Value} (hl : ts.length = 24) (ho : o.op = .build 59 #[(1, .tmp k)]) (hx : a.eval (.tmp k) = .agg ts.toArray) : (execOp a.eval o).run Tryd.prog w = .ok (.value (.agg (fnd0 ts).toArray)) w := by
  have hr : (Instr.build 59 #[(1, .agg ts.toArray)]).run Tryd.prog w = .ok (.agg (fnd0 ts).toArray) w := by
    match ts, hl with
    | [a0, a1, a2, a3, a4, a5, a6, a7, a8, a9, a10, a11, a12, a13, a14, a15, a16, a17, a18, a19, a20, a21, a22, a23], _ => exact bld24 a0 a1 a2 a3 a4 a5 a6 a7 a8 a9 a10 a11 a12 a13 a14 a15 a16 a17 a18 a19 a20 a21 a22 a23 w
  unfold execOp
  simp only [ho, List.map_toArray, List.map, hx, Sem.run_bind, hr]
  rfl
end Go.Proofs.YtdcpibglbanchaaDoor

set_option linter.unusedVariables false
set_option maxRecDepth 100000
namespace Go.Proofs.YtdcpibglbanchaaDoor
open Go.RowKit Go.Maps Go.ChangeMaps

section
variable {W w : World} {g mb k mn base : Nat} {b : Option Addr} {c : Nat} {fr ct : Int} {V : Value} {m : Nat} {xs : List Value} {ns : List (List UInt8)} {l : List Int} {T at_ : Nat}
/-- what record answers -/
def RecP (l : List Int) (T at_ : Nat) (ns : List (List UInt8)) (W : World) (g mb k mn base : Nat) (b : Option Addr) (c : Nat) (fr ct : Int) (m : Nat) (xs : List Value) (e : Ending) (w' : World) : Prop :=
  (∃ s, recS l T at_ ns ≠ 0 ∧ e = .returned (.tuple #[.int .i64 s, .int .i64 (recS l T at_ ns)]) ∧ Below W.heap.size W w') ∨
  (recS l T at_ ns = 0 ∧ e = .returned (.tuple #[.int .i64 (szL l at_ : Nat), .int .i64 0]) ∧ ∃ V', LK W w' g mb k mn base b l.length c fr T ct V' (m + 1) (xs ++ fndC l (at_, 0) 0) (ns ++ [nmU l at_]))
set_option maxHeartbeats 8000000 in
theorem record_is (h : LK W w g mb k mn base b l.length c fr (T : Nat) ct V m xs ns) (hb : Bs W W.heap.size b l) (hc : l.length ≤ c) (hm : l.length ≤ 65536) (hT : T ≤ l.length) (hat : at_ ≤ T) (hns : ns.length ≤ 1000) (hmm : m ≤ 1000) :
    Calls Tryd.prog 19 #[.pointer (some ⟨g, 0, none⟩), .int .i64 at_] w (RecP l T at_ ns W g mb k mn base b c fr ct m xs) := by
  have c3 : w.cell? ⟨g, 3, none⟩ = some (.int .i64 (T : Int)) := by rw [blk_cell h.blk]; rfl
  have hB := hb.1
  have hn2 : ∀ q : Int, ∃ n2 : Nat, numL l ((at_ : Int) + q) 2 = n2 ∧ n2 ≤ 4294967295 := fun q => by
    have h2 := numL_bd hB ((at_ : Int) + q) 2 (by decide)
    exact ⟨_, (Int.toNat_of_nonneg h2.1).symm, by omega⟩
  have hn4 : ∀ q : Int, ∃ n2 : Nat, numL l ((at_ : Int) + q) 4 = n2 ∧ n2 ≤ 4294967295 := fun q => by
    have h2 := numL_bd hB ((at_ : Int) + q) 4 (by decide)
    exact ⟨_, (Int.toNat_of_nonneg h2.1).symm, by omega⟩
  obtain ⟨n28, e28, b28⟩ := hn2 28
  obtain ⟨n30, e30, b30⟩ := hn2 30
  obtain ⟨n32, e32, b32⟩ := hn2 32
  obtain ⟨n34, e34, _⟩ := hn2 34
  obtain ⟨n6, e6, _⟩ := hn2 6
  obtain ⟨n8, e8, _⟩ := hn2 8
  obtain ⟨n10, e10, _⟩ := hn2 10
  obtain ⟨n16, e16, _⟩ := hn4 16
  obtain ⟨n20, e20, _⟩ := hn4 20
  obtain ⟨n24, e24, _⟩ := hn4 24
  obtain ⟨n42, e42, _⟩ := hn4 42
  clear hn2 hn4
  have hsz : szL l at_ = 46 + n28 + n30 + n32 := by
    unfold szL nmN
    rw [e28, e30, e32]; rfl
  have hnm : nmN l at_ = n28 := by
    unfold nmN
    rw [e28]; rfl
  have hR : recS l T at_ ns = if T < at_ + 46 ∨ kindL l at_ ≠ 2 then 11 else if T < at_ + (46 + n28 + n30 + n32) ∨ (n34 : Int) ≠ 0 then 11
      else if (n6 : Int) > 20 ∨ flagB n8 = false ∨ ((n10 : Int) ≠ 0 ∧ (n10 : Int) ≠ 8) then 12 else if nameB (nmT l at_) = false then 13 else if nmU l at_ ∈ ns then 14 else 0 := by
    unfold recS
    rw [hsz, e34, e6, e8, e10]
  have HR := Lib.hid hR
  have HS := Lib.hid (And.intro hsz hnm)
  have HB := Lib.hid hb
  have HL := Lib.hid h
  have HE := Lib.hid (And.intro e10 (And.intro e16 (And.intro e20 (And.intro e24 e42))))
  have n2 := fun (w1 : World) (hl : LK W w1 g mb k mn base b l.length c fr (T : Nat) ct V m xs ns) (q : Int) (hq : 0 ≤ q ∧ q ≤ 42) => lkNum (w := w1) (g := g) (B := W.heap.size) hl.blk hc hm (HB.out.below hl.low) ((at_ : Int) + q) 2 (by omega) (by decide)
  have n4 := fun (w1 : World) (hl : LK W w1 g mb k mn base b l.length c fr (T : Nat) ct V m xs ns) (q : Int) (hq : 0 ≤ q ∧ q ≤ 42) => lkNum (w := w1) (g := g) (B := W.heap.size) hl.blk hc hm (HB.out.below hl.low) ((at_ : Int) + q) 4 (by omega) (by decide)
  have hkd : at_ + 4 ≤ l.length → Calls Tryd.prog 25 #[.pointer (some ⟨g, 0, none⟩), .int .i64 at_] w fun e w' => e = .returned (.int .i64 (kindL l at_)) ∧ ∃ d, w' = w.drewN d := fun hp => lkKind (w := w) (g := g) (B := W.heap.size) HL.out.blk HL.out.sig hc hm (HB.out.below HL.out.low) at_ hp
  clear hR hsz hnm hb h hB
  by_cases h1 : T < at_ + 46
  · have t1 : decide ((T : Int) - at_ < 46) = true := by simp; omega
    have hP : recS l T at_ ns = 11 := by rw [HR.out, if_pos (.inl h1)]
    have HP := Lib.hid hP
    clear hP h1 hkd n2 n4
    go_enter Tryd.func19, Tryd.ntmps19
    go_wp2_with fail
    go_ret2
    exact .inl ⟨0, by rw [HP.out]; decide, by rw [HP.out]; rfl, HL.out.low⟩
  · have t1 : decide ((T : Int) - at_ < 46) = false := by simp; omega
    have hk := hkd (by omega)
    clear hkd
    obtain ⟨K, hK⟩ : ∃ K, kindL l at_ = K := ⟨_, rfl⟩
    rw [hK] at hk
    have HK := Lib.hid hK
    clear hK
    by_cases h2 : K = 2
    rotate_left
    · have t2 : ((K : Int) != 2) = true := by simp; omega
      have hP : recS l T at_ ns = 11 := by rw [HR.out, HK.out, if_pos (.inr h2)]
      have HP := Lib.hid hP
      clear hP h1 h2 n2 n4
      go_enter Tryd.func19, Tryd.ntmps19
      go_wp2_with fail
      refine hk.mono ?_
      rintro e w1 ⟨rfl, d, rfl⟩
      clear hk
      go_wp2_with fail
      go_ret2
      exact .inl ⟨0, by rw [HP.out]; decide, by rw [HP.out]; rfl, low_drewN HL.out.low d⟩
    · have t2 : ((K : Int) != 2) = false := by simp [h2]
      have HR2 : Hid (recS l T at_ ns = if T < at_ + (46 + n28 + n30 + n32) ∨ (n34 : Int) ≠ 0 then 11
          else if (n6 : Int) > 20 ∨ flagB n8 = false ∨ ((n10 : Int) ≠ 0 ∧ (n10 : Int) ≠ 8) then 12 else if nameB (nmT l at_) = false then 13 else if nmU l at_ ∈ ns then 14 else 0) := Lib.hid (by rw [HR.out, if_neg (by rw [HK.out]; omega)])
      clear HR h2
      go_enter Tryd.func19, Tryd.ntmps19
      go_wp2_with fail
      refine hk.mono ?_
      rintro e w1 ⟨rfl, d, rfl⟩
      have HL2 : Hid (LK W (w.drewN d) g mb k mn base b l.length c fr (T : Nat) ct V m xs ns) := Lib.hid (HL.out.below (low_drewN (Below.refl _ _) d))
      clear hk HL
      have q28 := n2 _ HL2.out 28 (by decide)
      have q30 := n2 _ HL2.out 30 (by decide)
      have q32 := n2 _ HL2.out 32 (by decide)
      rw [e28] at q28
      rw [e30] at q30
      rw [e32] at q32
      have HN := Lib.hid (And.intro n2 n4)
      clear n2 n4
      go_wp2_with fail
      refine q28.mono ?_
      rintro e w2 ⟨rfl, rfl⟩
      clear q28
      go_wp2_with fail
      refine q30.mono ?_
      rintro e w2 ⟨rfl, rfl⟩
      clear q30
      go_wp2_with fail
      refine q32.mono ?_
      rintro e w2 ⟨rfl, rfl⟩
      clear q32
      by_cases h3 : T < at_ + (46 + n28 + n30 + n32)
      · have t3 : decide ((46 : Int) + n28 + n30 + n32 > (T : Int) - at_) = true := by simp; omega
        have hP : recS l T at_ ns = 11 := by rw [HR2.out, if_pos (.inl h3)]
        have HP := Lib.hid hP
        clear hP h1 h3
        go_wp2_with fail
        go_ret2
        exact .inl ⟨0, by rw [HP.out]; decide, by rw [HP.out]; rfl, HL2.out.low⟩
      · have t3 : decide ((46 : Int) + n28 + n30 + n32 > (T : Int) - at_) = false := by simp; omega
        have q34 := HN.out.1 _ HL2.out 34 (by decide)
        rw [e34] at q34
        by_cases h4 : n34 = 0
        rotate_left
        · have t4 : ((n34 : Int) != 0) = true := by simp; omega
          have hP : recS l T at_ ns = 11 := by rw [HR2.out, if_pos (.inr (by omega))]
          have HP := Lib.hid hP
          clear hP h1 h3 h4
          go_wp2_with fail
          refine q34.mono ?_
          rintro e w2 ⟨rfl, rfl⟩
          clear q34
          go_wp2_with fail
          go_ret2
          exact .inl ⟨0, by rw [HP.out]; decide, by rw [HP.out]; rfl, HL2.out.low⟩
        · have t4 : ((n34 : Int) != 0) = false := by simp [h4]
          have HR3 : Hid (recS l T at_ ns = if (n6 : Int) > 20 ∨ flagB n8 = false ∨ ((n10 : Int) ≠ 0 ∧ (n10 : Int) ≠ 8) then 12 else if nameB (nmT l at_) = false then 13 else if nmU l at_ ∈ ns then 14 else 0) := Lib.hid (by rw [HR2.out, if_neg (by omega)])
          clear HR2 h4
          have HT := Lib.hid (And.intro h1 h3)
          clear h1 h3
          go_wp2_with fail
          refine q34.mono ?_
          rintro e w2 ⟨rfl, rfl⟩
          clear q34
          have q6 := HN.out.1 _ HL2.out 6 (by decide)
          have q8 := HN.out.1 _ HL2.out 8 (by decide)
          have q10 := HN.out.1 _ HL2.out 10 (by decide)
          rw [e6] at q6
          rw [e8] at q8
          rw [e10] at q10
          go_wp2_with fail
          refine q6.mono ?_
          rintro e w2 ⟨rfl, rfl⟩
          clear q6
          go_wp2_with fail
          refine q8.mono ?_
          rintro e w2 ⟨rfl, rfl⟩
          clear q8
          go_wp2_with fail
          refine q10.mono ?_
          rintro e w2 ⟨rfl, rfl⟩
          clear q10
          by_cases h5 : n6 > 20
          · have t5 : decide ((n6 : Int) > 20) = true := by simp; omega
            have hP : recS l T at_ ns = 12 := by rw [HR3.out, if_pos (.inl (by omega))]
            have HP := Lib.hid hP
            clear hP h5
            go_wp2_with fail
            go_ret2
            exact .inl ⟨0, by rw [HP.out]; decide, by rw [HP.out]; rfl, HL2.out.low⟩
          · have t5 : decide ((n6 : Int) > 20) = false := by simp; omega
            by_cases h6 : flagB n8 = false
            · have t6 : (bits .andNot .i64 (n8 : Int) 2054 != 0) = true := by unfold flagB at h6; simpa using h6
              have hP : recS l T at_ ns = 12 := by rw [HR3.out, if_pos (.inr (.inl h6))]
              have HP := Lib.hid hP
              clear hP h5 h6
              go_wp2_with fail
              go_ret2
              exact .inl ⟨0, by rw [HP.out]; decide, by rw [HP.out]; rfl, HL2.out.low⟩
            · have t6 : (bits .andNot .i64 (n8 : Int) 2054 != 0) = false := by unfold flagB at h6; simpa using h6
              by_cases h7 : n10 ≠ 0 ∧ n10 ≠ 8
              · have t7 : ((n10 : Int) != 0) = true := by simp; omega
                have t8 : ((n10 : Int) != 8) = true := by simp; omega
                have hP : recS l T at_ ns = 12 := by rw [HR3.out, if_pos (.inr (.inr (by omega)))]
                have HP := Lib.hid hP
                clear hP h5 h6 h7
                go_wp2_with fail
                go_ret2
                exact .inl ⟨0, by rw [HP.out]; decide, by rw [HP.out]; rfl, HL2.out.low⟩
              · have t78 : ((n10 : Int) != 0 && (n10 : Int) != 8) = false := by
                  rw [Bool.and_eq_false_iff]; simp; omega
                have HR4 : Hid (recS l T at_ ns = if nameB (nmT l at_) = false then 13 else if nmU l at_ ∈ ns then 14 else 0) := Lib.hid (by rw [HR3.out, if_neg (by rintro (q | q | q); omega; exact h6 q; omega)])
                clear HR3
                have hcase : ((n10 : Int) != 0) = false ∨ (((n10 : Int) != 0) = true ∧ ((n10 : Int) != 8) = false) := by
                  revert t78; cases ((n10 : Int) != 0) <;> cases ((n10 : Int) != 8) <;> simp
                clear h5 h6 h7 t78
                have hTT : at_ + (46 + n28 + n30 + n32) ≤ T := by have := HT.out; omega
                -- the bytes told
                have hbd : Bs (w.drewN d) W.heap.size b l := HB.out.below HL2.out.low
                have hnn : b = none → l.length = 0 ∧ c = 0 := fun e => by
                  obtain ⟨_, hcs⟩ := hbd
                  obtain ⟨b', off, e2, _⟩ := hcs (by omega)
                  rw [e] at e2; cases e2
                obtain ⟨a6, c6, _, r6, b6s, hc6, _, _⟩ := cut_l b l.length c l rfl hc hnn (at_ + 6) (by omega)
                rw [show ((at_ + 6 : Nat) : Int) = (at_ : Int) + 6 by omega] at r6
                have hlen6 : (cutOf l (at_ + 6) l.length).length = l.length - (at_ + 6) := cutOf_len (Nat.le_refl _)
                obtain ⟨bb, off, rfl, hbl, hcell⟩ := (b6s _ _ hbd).2 (by omega)
                have hrange : (w.drewN d).rangeAt bb off ((cutOf l (at_ + 6) (at_ + 30)).map (Value.int .u8)) := fun j v hv => by
                  rw [List.getElem?_map] at hv
                  have hj : j < 24 := by
                    rcases Nat.lt_or_ge j 24 with q | q
                    · exact q
                    · rw [List.getElem?_eq_none (by rw [cutOf_len (by omega)]; omega)] at hv; cases hv
                  have h1 := hcell j (by omega)
                  rw [h1]
                  unfold cutOf at hv ⊢
                  rw [List.getElem?_take_of_lt (by omega), List.getElem?_drop] at hv
                  rw [List.getD_eq_getElem?_getD, List.getElem?_take_of_lt (by omega), List.getElem?_drop]
                  cases hq : l[at_ + 6 + j]? with
                  | none => rw [hq] at hv; cases hv
                  | some u => rw [hq] at hv; exact hv
                have hl24 : ((cutOf l (at_ + 6) (at_ + 30)).map (Value.int .u8)).length = 24 := by rw [List.length_map, cutOf_len (by omega)]; omega
                have hap := fun (W : World) => run_arrayAt (w := W) (P := Tryd.prog) 57 _ 24 (some ⟨bb, off, none⟩) (l.length - (at_ + 6)) c6 Tryd.underlying57 (by omega)
                have c0 : (w.drewN d).cell? ⟨g, 0, none⟩ = some (.slice b l.length c) := by rw [blk_cell HL2.out.blk]; rfl
                -- the name
                obtain ⟨a4, c4, _, r4, b4s, hc4, _, hn4⟩ := cut_l b l.length c l rfl hc hnn (at_ + 46) (by omega)
                rw [show ((at_ + 46 : Nat) : Int) = (at_ : Int) + 46 by omega] at r4
                have hlen4 : (cutOf l (at_ + 46) l.length).length = l.length - (at_ + 46) := cutOf_len (Nat.le_refl _)
                obtain ⟨a5, c5, _, r5, b5s, hc5, _, hn5⟩ := DI.cut_h a4 (l.length - (at_ + 46)) c4 (cutOf l (at_ + 46) l.length) hlen4 hc4 hn4 n28 (by omega)
                have hnmc : (cutOf l (at_ + 46) l.length).take n28 = cutOf l (at_ + 46) (at_ + 46 + nmN l at_) := by
                  rw [HS.out.2]; unfold cutOf; rw [List.take_take, show min n28 (l.length - (at_ + 46)) = at_ + 46 + n28 - (at_ + 46) by omega]
                have hts : ∀ u ∈ (cutOf l (at_ + 6) (at_ + 30)).map (Value.int .u8), u.oneCell' = true := fun u hu => by
                  obtain ⟨y, _, rfl⟩ := List.mem_map.1 hu; rfl
                have hfd : fndC l (at_, 0) 0 = fx (.string (nmT l at_)) (.int .i64 n10) (.int .i64 n20) (.int .i64 n24) (.int .i64 n16) (.int .i64 0) (.int .i64 n42) ((cutOf l (at_ + 6) (at_ + 30)).map (Value.int .u8)) := by
                  unfold fndC recC pkL hdL fx
                  obtain ⟨p10, p16, p20, p24, p42⟩ := HE.out
                  simp only [p10, p16, p20, p24, p42, Int.toNat_natCast]
                  rfl
                have hnz : (nmT l at_).size ≤ 65536 := by
                  unfold nmT
                  rw [strOf_size]
                  unfold cutOf
                  rw [List.length_take, List.length_drop]
                  omega
                generalize hTS : (cutOf l (at_ + 6) (at_ + 30)).map (Value.int .u8) = ts at *
                have hts1 : (fnd0 ts).toArray.all (·.oneCell') = true := all_oneCell_toArray (fx_one rfl rfl rfl rfl rfl rfl rfl hts)
                have HH := Lib.hid (And.intro hts (And.intro b5s (And.intro hnmc (And.intro hfd (And.intro b4s (And.intro hTT hnz))))))
                clear hts b5s hnmc hn5 hcell b6s hbl hbd hnn b4s hTT hlen4 hlen6 hn4 hTS hfd hnz HK HT e34 e6 e8 e10
                have hF : ∀ (wf : World) (o : Obj), wf.heap[w.heap.size]? = some (.cells (fnd0 ts).toArray 59 (0, 0)) → Only w.heap.size ((w.drewN d).alloc o) wf →
                    Hid (Below w.heap.size (w.drewN d) wf ∧ wf.heap[w.heap.size]? = some (.cells (fnd0 ts).toArray 59 (0, 0))) ∧ wf.cell? ⟨g, 0, none⟩ = some (.slice b l.length c) ∧ wf.cell? ⟨w.heap.size, 0, none⟩ = some (.string ⟨#[]⟩) ∧ wf.cell? ⟨w.heap.size, 1, none⟩ = some (.int .i64 0) ∧ wf.frozen? ⟨w.heap.size, 0, none⟩ = false ∧ wf.frozen? ⟨w.heap.size, 1, none⟩ = false ∧
                    (convert 22 9 (.slice a5 n28 c5)).run Tryd.prog wf = .ok (.string (nmT l at_)) wf := fun wf o hwf hof => by
                  have hbf : Below w.heap.size (w.drewN d) wf := low_only ((Below.refl w.heap.size (w.drewN d)).alloc (Nat.le_refl _) o) hof (Nat.le_refl _) (Nat.le_refl _)
                  have HF := HL2.out.below hbf
                  refine ⟨Lib.hid ⟨hbf, hwf⟩, by rw [blk_cell HF.blk]; rfl, by rw [blk_cell hwf]; rfl, by rw [blk_cell hwf]; rfl, blk_free hwf 0, blk_free hwf 1, ?_⟩
                  have hcv := conv_bs (n := n28) c5 (HH.out.2.1 _ _ (HH.out.2.2.2.2.1 _ _ (HB.out.below HF.low))) (by rw [List.length_take, cutOf_len (Nat.le_refl _)]; have := HH.out.2.2.2.2.2.1; omega)
                  rw [HH.out.2.2.1] at hcv
                  exact hcv
                have q4 := HN.out.2
                have hX : ∀ wf, wf.heap[w.heap.size]? = some (.cells (fnd0 ts).toArray 59 (0, 0)) → Below w.heap.size (w.drewN d) wf → ∃ wg, wg = (wf.setCell ⟨w.heap.size, 0, none⟩ (.string (nmT l at_))).setCell ⟨w.heap.size, 1, none⟩ (.int .i64 n10) ∧
                    Hid (Below w.heap.size (w.drewN d) wg ∧ wg.heap[w.heap.size]? = some (.cells (fx (.string (nmT l at_)) (.int .i64 n10) (.int .i64 0) (.int .i64 0) (.int .i64 0) (.int .i64 0) (.int .i64 0) ts).toArray 59 (0, 0))) ∧
                    wg.cell? ⟨w.heap.size, 2, none⟩ = some (.int .i64 0) ∧ wg.cell? ⟨w.heap.size, 3, none⟩ = some (.int .i64 0) ∧ wg.cell? ⟨w.heap.size, 4, none⟩ = some (.int .i64 0) ∧ wg.frozen? ⟨w.heap.size, 2, none⟩ = false ∧ wg.frozen? ⟨w.heap.size, 3, none⟩ = false ∧ wg.frozen? ⟨w.heap.size, 4, none⟩ = false := fun wf hwf hbf => by
                  have k1 := blk_set hwf 0 (.string (nmT l at_))
                  rw [fx_0] at k1
                  have k2 := blk_set k1 1 (.int .i64 n10)
                  rw [fx_1] at k2
                  exact ⟨_, rfl, Lib.hid ⟨(hbf.setCell (p := ⟨w.heap.size, 0, none⟩) (Nat.le_refl _) _).setCell (p := ⟨w.heap.size, 1, none⟩) (Nat.le_refl _) _, k2⟩, by rw [blk_cell k2]; rfl, by rw [blk_cell k2]; rfl, by rw [blk_cell k2]; rfl, blk_free k2 2, blk_free k2 3, blk_free k2 4⟩
                have hY : ∀ wg, wg.heap[w.heap.size]? = some (.cells (fx (.string (nmT l at_)) (.int .i64 n10) (.int .i64 0) (.int .i64 0) (.int .i64 0) (.int .i64 0) (.int .i64 0) ts).toArray 59 (0, 0)) → Below w.heap.size (w.drewN d) wg →
                    ∃ wh, wh = ((wg.setCell ⟨w.heap.size, 4, none⟩ (.int .i64 n16)).setCell ⟨w.heap.size, 2, none⟩ (.int .i64 n20)).setCell ⟨w.heap.size, 3, none⟩ (.int .i64 n24) ∧
                    Hid (Below w.heap.size (w.drewN d) wh ∧ (wh.setCell ⟨w.heap.size, 6, none⟩ (.int .i64 n42)).heap[w.heap.size]? = some (.cells (fndC l (at_, 0) 0).toArray 59 (0, 0))) ∧ wh.cell? ⟨w.heap.size, 6, none⟩ = some (.int .i64 0) ∧ wh.frozen? ⟨w.heap.size, 6, none⟩ = false := fun wg hwg hbg => by
                  have k1 := blk_set hwg 4 (.int .i64 n16)
                  rw [fx_4] at k1
                  have k2 := blk_set k1 2 (.int .i64 n20)
                  rw [fx_2] at k2
                  have k3 := blk_set k2 3 (.int .i64 n24)
                  rw [fx_3] at k3
                  have k4 := blk_set k3 6 (.int .i64 n42)
                  rw [fx_6] at k4
                  exact ⟨_, rfl, Lib.hid ⟨((hbg.setCell (p := ⟨w.heap.size, 4, none⟩) (Nat.le_refl _) _).setCell (p := ⟨w.heap.size, 2, none⟩) (Nat.le_refl _) _).setCell (p := ⟨w.heap.size, 3, none⟩) (Nat.le_refl _) _, by rw [HH.out.2.2.2.1]; exact k4⟩, by rw [blk_cell k3]; rfl, blk_free k3 6⟩
                have HX := Lib.hid hX
                have HY := Lib.hid hY
                clear hX hY
                rcases hcase with t7 | ⟨t7, t8⟩
                all_goals
                  go_wp2_with (first | (refine wpList_load_mid rfl 57 _ rfl bb off rfl ts _ hrange Tryd.underlying57 rfl (by rw [hl24]; kernel_rfl) ?_) | (refine wpList_val rfl (y_bldF hl24 rfl rfl) ?_) | (refine fnd_st rfl rfl (w.drewN d).heap.size rfl rfl (by simp [fx, hl24]) rfl hts1 (heap_alloc_new _ _) ?_; intro wf hwf hof; obtain ⟨HF, cf0, x0, x1, z0, z1, hcv⟩ := hF wf _ hwf hof; clear hwf hof hF))
                  obtain ⟨wg, ewg, HG, x2, x3, x4, z2, z3, z4⟩ := HX.out wf HF.out.2 HF.out.1
                  rw [← ewg]
                  clear HX ewg cf0 x0 x1 z0 z1 hcv HF hrange r6 hap c0 r4 r5 t1 t2 t3 t4 t5 t6 t7 c3
                  have q16 := q4 _ (HL2.out.below HG.out.1) 16 (by decide)
                  have q20 := q4 _ (HL2.out.below HG.out.1) 20 (by decide)
                  have q24 := q4 _ (HL2.out.below HG.out.1) 24 (by decide)
                  rw [e16] at q16
                  rw [e20] at q20
                  rw [e24] at q24
                  refine q16.mono ?_
                  rintro e w2 ⟨rfl, rfl⟩
                  clear q16
                  go_wp2_with fail
                  refine q20.mono ?_
                  rintro e w2 ⟨rfl, rfl⟩
                  clear q20
                  go_wp2_with fail
                  refine q24.mono ?_
                  rintro e w2 ⟨rfl, rfl⟩
                  clear q24
                  go_wp2_with fail
                  obtain ⟨wh, ewh, HI, x6, z6⟩ := HY.out wg HG.out.2 HG.out.1
                  rw [← ewh]
                  clear HY ewh x2 x3 x4 z2 z3 z4
                  have q42 := q4 _ (HL2.out.below HI.out.1) 42 (by decide)
                  rw [e42] at q42
                  refine q42.mono ?_
                  rintro e w2 ⟨rfl, rfl⟩
                  clear q42
                  have hwi := HI.out.2
                  have hbi : Below w.heap.size (w.drewN d) (wh.setCell ⟨w.heap.size, 6, none⟩ (.int .i64 n42)) := HI.out.1.setCell (p := ⟨w.heap.size, 6, none⟩) (Nat.le_refl _) _
                  have hcs : fndC l (at_, 0) 0 = .string (nmT l at_) :: (fndC l (at_, 0) 0).tail := rfl
                  have hl32 : (fndC l (at_, 0) 0).length = 32 := by rw [HH.out.2.2.2.1]; exact fx_len hl24
                  have hkeep := keep_any (HL2.out.below hbi) (nmT l at_) (fndC l (at_, 0) 0).tail (by rw [List.length_tail, hl32]) HH.out.2.2.2.2.2.2 hns hmm (by rw [← hcs, HH.out.2.2.2.1]; exact fx_one rfl rfl rfl rfl rfl rfl rfl HH.out.1)
                  rw [← hcs] at hkeep
                  have hrk : Hid (recS l T at_ ns = keepE (nmT l at_) ns) := Lib.hid (by rw [HR4.out]; rfl)
                  have hss : Hid (((szL l at_ : Nat) : Int) = 46 + n28 + n30 + n32) := Lib.hid (by rw [HS.out.1]; omega)
                  clear HH HI HG HR4 hbi hcs e16 e20 e24 e42 e28 e30 e32 q4 HE HN HS hts1 hl24
                  generalize hF32 : fndC l (at_, 0) 0 = F32 at *
                  have HF32 := Lib.hid hF32
                  clear hF32
                  go_wp2_with (refine fnd_ld rfl rfl w.heap.size rfl hl32 hwi ?_)
                  refine hkeep.mono ?_
                  rintro e w2 ⟨rfl, hlow, hgood⟩
                  have HO := Lib.hid (And.intro hlow hgood)
                  clear hkeep hwi hlow hgood hl32 x6 z6
                  go_wp2_with fail
                  go_ret2
                  unfold RecP
                  rw [hrk.out, hss.out]
                  by_cases hk0 : keepE (nmT l at_) ns = 0
                  · refine .inr ⟨hk0, by rw [hk0]; rfl, ?_⟩
                    obtain ⟨V', hV⟩ := HO.out.2 hk0
                    exact ⟨V', by rw [HF32.out]; exact hV⟩
                  · exact .inl ⟨_, hk0, rfl, HO.out.1⟩
end
end Go.Proofs.YtdcpibglbanchaaDoor

set_option linter.unusedVariables false
set_option maxRecDepth 100000
namespace Go.Proofs.YtdcpibglbanchaaDoor
open Go.RowKit Go.Maps Go.ChangeMaps

/-- what was found of central records at these places -/
def fndR (l : List Int) (ps : List Nat) : List Value := ps.flatMap fun p => fndC l (p, 0) 0
theorem fndR_app (l : List Int) (ps : List Nat) (p : Nat) : fndR l (ps ++ [p]) = fndR l ps ++ fndC l (p, 0) 0 := by unfold fndR; simp
section
variable {W w : World} {g mb k mn base : Nat} {b : Option Addr} {c : Nat} {V : Value} {l : List Int} {T F N : Nat}
/-- what central answers -/
def CenP (l : List Int) (T F N : Nat) (W : World) (g mb k mn base : Nat) (b : Option Addr) (c : Nat) (e : Ending) (w' : World) : Prop :=
  (∃ er, cenS l T N F [] = .error er ∧ er ≠ 0 ∧ e = .returned (.int .i64 er) ∧ Below W.heap.size W w') ∨
  (∃ ps V', cenS l T N F [] = .ok ps ∧ e = .returned (.int .i64 0) ∧ LK W w' g mb k mn base b l.length c (F : Nat) (T : Nat) (N : Nat) V' ps.length (fndR l ps) (ps.map (nmU l)))
set_option maxHeartbeats 4000000 in
theorem central_is (h : LK W w g mb k mn base b l.length c (F : Nat) (T : Nat) (N : Nat) (.slice none 0 0) 0 [] []) (hb : Bs W W.heap.size b l) (hc : l.length ≤ c) (hm : l.length ≤ 65536) (hT : T ≤ l.length) (hF : F ≤ T) (hN : N ≤ 64) :
    Calls Tryd.prog 11 #[.pointer (some ⟨g, 0, none⟩)] w (CenP l T F N W g mb k mn base b c) := by
  have c2 : w.cell? ⟨g, 2, none⟩ = some (.int .i64 (F : Int)) := by rw [blk_cell h.blk]; rfl
  have c4 : w.cell? ⟨g, 4, none⟩ = some (.int .i64 (N : Int)) := by rw [blk_cell h.blk]; rfl
  have HL := Lib.hid (And.intro h hb)
  clear h hb
  go_enter Tryd.func11, Tryd.ntmps11
  go_wp2_with fail
  go_loopw [3, 14] (fun v i wr => ∃ (q a : Nat) (ps : List Nat) (V' : Value), q ≤ N ∧ ps.length = q ∧ a ≤ T ∧ v = .int .i64 a ∧ i = .int .i64 q ∧ Hid (cenS l T N F [] = cenS l T (N - q) a ps) ∧ Hid (LK W wr g mb k mn base b l.length c (F : Nat) (T : Nat) (N : Nat) V' q (fndR l ps) (ps.map (nmU l)))) (fun _ i _ => N - (intOf i).toNat)
  case atStart => exact ⟨0, F, [], _, Nat.zero_le _, rfl, hF, rfl, rfl, Lib.hid rfl, HL.out.1⟩
  case round =>
    obtain ⟨q, a, ps, V', hq, hps, ha, rfl, rfl, HC, HW⟩ := hrel
    by_cases hlt : q < N
    · have hrec := record_is (at_ := a) HW.out HL.out.2 hc hm hT ha (by rw [List.length_map]; omega) (by omega)
      obtain ⟨M, hM⟩ : ∃ M, N - q = M + 1 := ⟨N - q - 1, by omega⟩
      have hstep : cenS l T (M + 1) a ps = if recS l T a (ps.map (nmU l)) ≠ 0 then .error (recS l T a (ps.map (nmU l))) else cenS l T M (a + szL l a) (ps ++ [a]) := rfl
      have HS := Lib.hid (And.intro hM hstep)
      clear hM hstep c2 c4
      go_wp2_with fail
      refine hrec.mono ?_
      rintro e w2 (⟨s, h1, rfl, hlow⟩ | ⟨h1, rfl, V2, hL2⟩)
      · have t1 : (recS l T a (ps.map (nmU l)) != 0) = true := by simpa using h1
        have HO := Lib.hid (And.intro h1 hlow)
        clear hrec h1 hlow
        generalize hE : recS l T a (ps.map (nmU l)) = er at *
        go_wp2_with fail
        go_ret
        refine .inl ⟨er, ?_, HO.out.1, rfl, HO.out.2⟩
        rw [HC.out, HS.out.1, HS.out.2, if_pos HO.out.1]
      · have hok := recS_ok h1
        have HO := Lib.hid (And.intro h1 hL2)
        have hsz : a + szL l a ≤ T := hok.2.2.1
        clear hrec h1 hL2 hok
        generalize hZ : szL l a = z at *
        go_wp2_with fail
        go_roundw
        case rel =>
          refine ⟨q + 1, a + z, ps ++ [a], V2, by omega, by simp [hps], by omega, by go_num, by go_num, Lib.hid ?_, Lib.hid ?_⟩
          · rw [HC.out, HS.out.1, HS.out.2, if_neg (by rw [HO.out.1]; simp), show N - (q + 1) = M by have := HS.out.1; omega]
          · rw [fndR_app, List.map_append]; exact HO.out.2
        case measure => simp [intOf]; omega
    · obtain rfl : N = q := by omega
      have c3 : wr.cell? ⟨g, 3, none⟩ = some (.int .i64 (T : Int)) := by rw [blk_cell HW.out.blk]; rfl
      have hend : cenS l T N F [] = if a < T then .error 11 else .ok ps := by rw [HC.out, Nat.sub_self]; rfl
      have HE := Lib.hid hend
      clear hend HC c2 c4
      by_cases h1 : a < T
      · have t1 : decide ((a : Int) < T) = true := by simp; omega
        go_wp2_with fail
        go_ret
        exact .inl ⟨11, by rw [HE.out, if_pos h1], by decide, rfl, HW.out.low⟩
      · have t1 : decide ((a : Int) < T) = false := by simp; omega
        go_wp2_with fail
        go_ret
        exact .inr ⟨ps, V', by rw [HE.out, if_neg h1], rfl, by rw [hps]; exact HW.out⟩
end
end Go.Proofs.YtdcpibglbanchaaDoor
