/- The walk of the law SumLinear: it returns true and turns nothing that was there. Condition: the bytes lie below the heap's size. -/
import Derived.Test.YtfgifimmdkiejaaWSum1
import Derived.Test.YtfgifimmdkiejaaCut
import Derived.Test.YtfgifimmdkiejaaAny
import Derived.Deep.DeepCutAuto
import Derived.Great.BuildSlice
set_option linter.unusedVariables false
namespace Go.Proofs.Ytfgifimmdkiejaa
open Go.RowKit

theorem reg_bx (a b : Int) (ha : 0 ≤ a ∧ a ≤ 255) (hb : 0 ≤ b ∧ b ≤ 255) : reg (bx a b) = reg a ^^^ reg b ∧ 0 ≤ bx a b ∧ bx a b ≤ 255 := by
  have h1 := ofInt_toNat 8 a
  have h2 := ofInt_toNat 8 b
  have g1 := reg_get a ha
  have g2 := reg_get b hb
  have e : bx a b = (((BitVec.ofInt 8 a ^^^ BitVec.ofInt 8 b).toNat : Nat) : Int) := by
    unfold bx
    rw [xor8u_is, u8_wrap]
    have := (BitVec.ofInt 8 a ^^^ BitVec.ofInt 8 b).isLt
    omega
  have e2 : (BitVec.ofInt 8 a ^^^ BitVec.ofInt 8 b).toNat = (reg a ^^^ reg b).toNat := by
    rw [BitVec.toNat_xor, BitVec.toNat_xor]
    congr 1 <;> omega
  have hlt := (BitVec.ofInt 8 a ^^^ BitVec.ofInt 8 b).isLt
  refine ⟨?_, by omega, by omega⟩
  rw [e, e2]
  exact of_un (reg a ^^^ reg b)
/-- the exclusive or of two texts' first m bytes -/
def xl (l l' : List Int) (m : Nat) : List Int := (List.range m).map fun i => bx (l.getD i 0) (l'.getD i 0)
theorem xl_len (l l' : List Int) (m : Nat) : (xl l l' m).length = m := by simp [xl]
theorem xl_succ (l l' : List Int) (m : Nat) : xl l l' (m + 1) = xl l l' m ++ [bx (l.getD m 0) (l'.getD m 0)] := by simp [xl, List.range_succ]
theorem xl_bytes {l l' : List Int} (h : Bytes l) (h' : Bytes l') (m : Nat) : Bytes (xl l l' m) := fun x hx => by
  obtain ⟨i, _, rfl⟩ := List.mem_map.1 hx
  exact (reg_bx _ _ (h.at_ i) (h'.at_ i)).2
theorem crc_lin {l l' : List Int} (h : Bytes l) (h' : Bytes l') (r r' : BitVec 32) : ∀ m, m ≤ l.length → m ≤ l'.length → crc (r ^^^ r') (xl l l' m) = crc r (l.take m) ^^^ crc r' (l'.take m)
  | 0, _, _ => by simp [crc, xl]
  | m + 1, h1, h2 => by
    rw [xl_succ, crc_snoc, crc_lin h h' r r' m (by omega) (by omega), take_succ' l m (by omega), take_succ' l' m (by omega), crc_snoc, crc_snoc]
    unfold step
    rw [(reg_bx _ _ (h.at_ m) (h'.at_ m)).1, xor4, shn_xor]
theorem bx_zero (a : Int) (ha : 0 ≤ a ∧ a ≤ 255) : bx a 0 = a := by
  have h := (reg_bx a 0 ha (by decide)).1
  have hb := (reg_bx a 0 ha (by decide)).2
  have e : reg 0 = 0#32 := rfl
  rw [e, BitVec.xor_zero] at h
  have h1 := reg_get (bx a 0) hb
  have h2 := reg_get a ha
  rw [h] at h1; omega
theorem xl_zero {x : List Int} (h : Bytes x) (m : Nat) (hm : x.length = m) : xl x (List.replicate m 0) m = x := by
  subst hm
  unfold xl
  apply List.ext_getElem?
  intro i
  by_cases hi : i < x.length
  · have e : (List.replicate x.length (0 : Int)).getD i 0 = 0 := by simp [List.getD_eq_getElem?_getD, hi]
    rw [List.getElem?_map, List.getElem?_range hi, Option.map_some, e, bx_zero _ (h.at_ i), List.getD_eq_getElem?_getD, List.getElem?_eq_getElem hi]; rfl
  · rw [List.getElem?_eq_none (by simp; omega), List.getElem?_eq_none (by omega)]
theorem xor64_un (p q : BitVec 32) : bits .xor .i64 (un p) (un q) = un (p ^^^ q) := by
  rw [xor64_is]
  have hp := p.isLt
  have hq := q.isLt
  have h1 : (BitVec.ofInt 64 (un p)).toNat = p.toNat := by have := ofInt_toNat 64 (un p); unfold un at this ⊢; omega
  have h2 : (BitVec.ofInt 64 (un q)).toNat = q.toNat := by have := ofInt_toNat 64 (un q); unfold un at this ⊢; omega
  rw [BitVec.toNat_xor, h1, h2, ← BitVec.toNat_xor, wrap64_eq]
  have hb := un_bd (p ^^^ q)
  unfold un at hb ⊢
  exact wrap64_in _ (by omega)
theorem not_xor (p q : BitVec 32) : ~~~p ^^^ ~~~q = p ^^^ q := by
  apply BitVec.eq_of_getLsbD_eq
  intro i hi
  simp [hi]
theorem sum_linear {l l' : List Int} (h : Bytes l) (h' : Bytes l') (m : Nat) (h1 : m ≤ l.length) (h2 : m ≤ l'.length) :
    bits .xor .i64 (sumOf 0 (l.take m)) (sumOf 0 (l'.take m)) = bits .xor .i64 (sumOf 0 (xl l l' m)) (sumOf 0 (List.replicate m 0)) := by
  have hx := xl_bytes h h' m
  have hz : Bytes (List.replicate m (0 : Int)) := fun x hx => by rw [List.eq_of_mem_replicate hx]; decide
  unfold sumOf
  rw [xor64_un, xor64_un, not_xor, not_xor]
  have e1 := crc_lin h h' (start 0) (start 0) m h1 h2
  have e2 := crc_lin hx hz (start 0) (start 0) m (by rw [xl_len]; omega) (by simp)
  rw [xl_zero hx m (xl_len _ _ _), List.take_of_length_le (by rw [xl_len]; omega), List.take_of_length_le (by simp)] at e2
  rw [← e1, ← e2]

theorem two_new (w : World) (o1 o2 : Obj) : ((w.alloc o1).alloc o2).heap[w.heap.size]? = some o1 ∧ ((w.alloc o1).alloc o2).heap[w.heap.size + 1]? = some o2 ∧ Below w.heap.size w ((w.alloc o1).alloc o2) :=
  ⟨(Below.heap_alloc _ _ _ (by simp)).trans (heap_alloc_new w o1), by simpa using heap_alloc_new (w.alloc o1) o2, ((Below.refl _ _).alloc (Nat.le_refl _) _).alloc (by simp) _⟩
theorem cells_list {cs : Array Value} {m : Nat} {f : Nat → Int} (hs : cs.size = m) (h : ∀ i, i < m → cs[i]? = some (.int .u8 (f i))) : cs.toList = ((List.range m).map f).map (Value.int .u8) :=
  list_of_get (by simp [hs]) (fun i hi => by
    simp only [List.length_map, List.length_range] at hi
    rw [h i hi]; simp [hi])
theorem row_bs {w : World} {g : Nat} {cs : Array Value} {t : TypeId} {l : List Int} (hh : w.heap[g]? = some (.cells cs t (0, 0))) (hs : cs.toList = l.map (Value.int .u8)) (hl : Bytes l) : Bs w w.heap.size (some ⟨g, 0, none⟩) l := by
  refine ⟨hl, fun hn => ⟨g, 0, rfl, blk_lt hh, fun i hi => ?_⟩⟩
  rw [blk_cell hh, ← Array.getElem?_toList, hs, Nat.zero_add, List.getElem?_map, List.getD_eq_getElem?_getD, List.getElem?_eq_getElem hi]; rfl
theorem part_info : (Try.prog.info? 22).map (fun i => (i.zero, i.size, i.bytes)) = some (some (.slice none 0 0), 1, 24) := by kernel_rfl
theorem add_zero (p : Addr) : p.add 0 = p := by cases p; unfold Addr.add; split <;> simp_all
section
variable {a : Act} {w : World} {o : Oper}
theorem x_move {x : Operand} {v : Value} (ho : o.op = .move x) (hv : a.eval x = v) : (execOp a.eval o).run Try.prog w = .ok (.value v) w := by
  subst hv; unfold execOp; rw [ho]; rfl
theorem x_assign {x : Operand} {v : Value} (ho : o.op = .assign x) (hv : a.eval x = v) : (execOp a.eval o).run Try.prog w = .ok (.value v) w := by
  subst hv; unfold execOp; rw [ho]; rfl
theorem x_slice {x h : Operand} {b : Option Addr} {n c k : Nat} (ho : o.op = .slice 22 x none (some h) none) (hx : a.eval x = .slice b n c) (hh : a.eval h = .int .i64 k) (hk : k ≤ c) : (execOp a.eval o).run Try.prog w = .ok (.value (.slice b k c)) w := by
  have hr : (Instr.sliceAt 22 (.slice b n c) none (some (.int .i64 k)) none).run Try.prog w = .ok (.slice b k c) w := by
    rw [run_sliceAt_slice _ _ _ _ _ _ elem_u8, run_slice_h w 22 b n c elem_u8 .i64 k (by omega) (by omega), sized_u8]
    have e : b.map (·.add 0) = b := by cases b <;> simp [add_zero]
    simp [Result.andThen, sliced, e]
  unfold execOp
  simp only [ho, Option.map, hx, hh, Sem.run_bind, hr]
  rfl
theorem x_lit {x : Operand} {b : Option Addr} {n c : Nat} (ho : o.op = .buildSlice 31 1 #[(0, x)]) (hx : a.eval x = .slice b n c) : (execOp a.eval o).run Try.prog w = .ok (.value (.slice (some ⟨w.heap.size, 0, none⟩) 1 1)) (w.alloc (.cells #[.slice b n c] 22)) := by
  obtain ⟨i0, hi, hz0, hz1, hz2⟩ := info_parts part_info
  have hr : (Instr.buildSlice 31 1 #[(0, .slice b n c)]).run Try.prog w = .ok (.slice (some ⟨w.heap.size, 0, none⟩) 1 1) (w.alloc (.cells #[.slice b n c] 22)) :=
    run_buildSlice w _ _ 1 _ _ i0 _ Try.underlying31 hi hz0 (by rw [hz1]; decide) (by rw [hz1]; decide) (by rw [hz1]; simp [Instr.fill, Value.cells]; apply Array.ext'; simp [Array.toList_setIfInBounds, List.range_succ])
  unfold execOp
  simp only [ho, List.map_toArray, List.map, hx, Sem.run_bind, hr]
  rfl
theorem x_call {x : Operand} {ats : Array TypeId} (ho : o.op = .call { callee := .value (.func 16), args := #[x], argTypes := ats }) : (execOp a.eval o).run Try.prog w = .ok (.enter 16 #[a.eval x]) w := by
  have ef : a.eval (.func 16) = .func (.func 16) #[] #[] := rfl
  have hn : (Try.f16.name == "runtime.NumGoroutine") = false := by kernel_rfl
  have hn' : ¬ Try.f16.name = "runtime.NumGoroutine" := by simpa using hn
  have hb : Try.f16.body.isNone = false := by kernel_rfl
  have hb' : ¬ Try.f16.body = none := fun h => by rw [h] at hb; cases hb
  unfold execOp
  simp [ho, resolve, Deferred.ofValue, invoke, ef, callFunc, run_program, Try.func16, hn', hb']
theorem x_xor {x y : Operand} {p q : Int} {ty : TypeId} (ho : o.op = .binOp .xor 3 x y ty) (hx : a.eval x = .int .i64 p) (hy : a.eval y = .int .i64 q) : (execOp a.eval o).run Try.prog w = .ok (.value (.int .i64 (bits .xor .i64 p q))) w := by
  unfold execOp
  simp only [ho, hx, hy]
  simp [go_sem]
theorem x_eql {x y : Operand} {p : Int} {ty : TypeId} (ho : o.op = .binOp .eql 3 x y ty) (hx : a.eval x = .int .i64 p) (hy : a.eval y = .int .i64 p) : (execOp a.eval o).run Try.prog w = .ok (.value (.bool true)) w := by
  unfold execOp
  simp only [ho, hx, hy]
  simp [go_sem]
end
/-- a literal of one part, u -/
def PartV (w : World) (u v : Value) : Prop := ∃ b, v = .slice (some ⟨b, 0, none⟩) 1 1 ∧ b < w.heap.size ∧ w.cell? ⟨b, 0, none⟩ = some u
theorem PartV.below {w w' : World} {u v : Value} (h : PartV w u v) (hb : Below w.heap.size w w') : PartV w' u v := by
  obtain ⟨b, rfl, h1, h2⟩ := h
  exact ⟨b, rfl, by have := hb.size; omega, (hb.cell (p := ⟨b, 0, none⟩) h1).trans h2⟩
theorem PartV.new (w : World) (u : Value) (t : TypeId) : PartV (w.alloc (.cells #[u] t)) u (.slice (some ⟨w.heap.size, 0, none⟩) 1 1) :=
  ⟨w.heap.size, rfl, by simp, by rw [blk_cell (heap_alloc_new w _)]; rfl⟩
theorem PartV.call {w : World} {a : Option Addr} {n c : Nat} {l : List Int} {v : Value} (h : PartV w (.slice a n c) v) (hb : Bs w w.heap.size a l) (hn : l.length = n) (hm : n ≤ 140737488355328) :
    Calls Try.prog 16 #[v] w fun e w' => e = .returned (.int .i64 (sumOf 0 l)) ∧ Below w.heap.size w w' := by
  subst hn
  obtain ⟨b, rfl, h1, h2⟩ := h
  have := sumOfCall (some ⟨b, 0, none⟩) 1 1 [l] rfl (by decide) w ⟨fun p hp => by simp at hp; subst hp; exact hm, fun _ => ⟨b, 0, rfl, h1, fun i hi => by
    obtain rfl : i = 0 := by simpa using hi
    exact ⟨a, c, h2, hb⟩⟩⟩
  exact this.mono fun e w' ⟨h1, h2⟩ => ⟨by simpa using h1, h2⟩
theorem bs_take {w : World} {B : Nat} {a : Option Addr} {l : List Int} (h : Bs w B a l) (k : Nat) : Bs w B a (l.take k) :=
  ⟨h.1.take k, fun hn => by
    simp only [List.length_take] at hn
    obtain ⟨b, off, e, hb, hc⟩ := h.2 (by omega)
    refine ⟨b, off, e, hb, fun i hi => ?_⟩
    simp only [List.length_take] at hi
    rw [hc i (by omega)]
    simp [List.getD_eq_getElem?_getD, (by omega : i < k)]⟩
def isPart (i : Nat) : Bool := i == 3 || i == 8 || i == 12 || i == 15
def GL (vs : List Value) (i : Nat) (v : Value) (w : World) : Prop := bif isPart i then PartV w (vs.getD i undef) v else v = vs.getD i undef
theorem GL.stab {vs : List Value} (i : Nat) (v : Value) (w w' : World) (h : GL vs i v w) (hb : Below w.heap.size w w') : GL vs i v w' := by
  unfold GL at *
  cases h1 : isPart i with
  | true => rw [h1] at h; exact PartV.below h hb
  | false => rw [h1] at h; exact h
set_option maxRecDepth 100000 in
set_option maxHeartbeats 2000000 in
theorem sumlinear_walk (w : World) (a : Option Addr) (n c : Nat) (l : List Int) (hn : l.length = n) (hnc : n ≤ c) (hm : c ≤ 140737488355328) (hb : Bs w w.heap.size a l) (a' : Option Addr) (n' c' : Nat) (l' : List Int) (hn' : l'.length = n') (hnc' : n' ≤ c') (hm' : c' ≤ 140737488355328) (hb' : Bs w w.heap.size a' l') :
    Calls Try.prog 5 #[.slice a n c, .slice a' n' c'] w fun e w' => e = .returned (.bool true) ∧ Below w.heap.size w w' := by
  subst hn
  subst hn'
  obtain ⟨m, hm0⟩ : ∃ m : Nat, min l.length l'.length = m := ⟨_, rfl⟩
  have hmk := fun W => run_make_row' (P := Try.prog) 22 5 (.int .u8 0) 1 Try.underlying22 u8_info rfl .i64 .i64 m (by omega) (by omega) W
  have hml : m ≤ l.length := by omega
  have hml' : m ≤ l'.length := by omega
  have HM := Lib.hid hm0; clear hm0
  go_enter Try.func5, Try.ntmps5
  go_wp2_with fail
  refine (sumFixed _).mono ?_
  rintro e w1 ⟨rfl, hb1⟩
  have hs1 := hb1.size
  have k1 := hb.below hb1
  have k2 := hb'.below hb1
  go_upto_region 3 with (fail)
  go_cut [5] (fun v wx => v = .int .i64 m ∧ w1 = wx)
  case first =>
    go_wp2_with fail
    all_goals go_meet
    all_goals exact ⟨by have h := HM.out; congr 1; omega, rfl⟩
  case rest =>
    obtain ⟨rfl, rfl⟩ := hcut
    go_upto_region 4 with (fail)
    go_cut [6, 7] (fun v6 v7 wx => ∃ g h : Nat, v6 = .slice (some ⟨g, 0, none⟩) m m ∧ v7 = .slice (some ⟨h, 0, none⟩) m m ∧ g ≠ h ∧ w1.heap.size ≤ g ∧ w1.heap.size ≤ h ∧ wx.heap[g]? = some (.cells (madeCells #[.int .u8 0] m) 5 (0, 0)) ∧ wx.heap[h]? = some (.cells (madeCells #[.int .u8 0] m) 5 (0, 0)) ∧ Below w1.heap.size w1 wx)
    case first =>
      go_region
      all_goals go_wp2_with fail
      all_goals go_meet
      all_goals have ht := two_new w1 (.cells (madeCells #[.int .u8 0] m) 5) (.cells (madeCells #[.int .u8 0] m) 5)
      · exact ⟨w1.heap.size, w1.heap.size + 1, rfl, rfl, by omega, by omega, by omega, ht.1, ht.2.1, ⟨ht.2.2.os, ht.2.2.tape, ht.2.2.output, ht.2.2.size, ht.2.2.block⟩⟩
      · exact ⟨w1.heap.size + 1, w1.heap.size, rfl, rfl, by omega, by omega, by omega, ht.2.1, ht.1, ⟨ht.2.2.os, ht.2.2.tape, ht.2.2.output, ht.2.2.size, ht.2.2.block⟩⟩
    case rest =>
      obtain ⟨g, h, rfl, rfl, hgh, hg1, hh1, hx, hz, hbw⟩ := hcut
      have hsw := hbw.size
      have HXZ := Lib.hid (And.intro hx (And.intro hz hbw))
      have hxb := xl_bytes hb.1 hb'.1 m
      have hglt := blk_lt hx
      have hhlt := blk_lt hz
      clear hx hz hbw hmk hb hb'
      go_wp2_with fail
      go_loopw [8, 22] (fun _ i wr => ∃ k : Nat, ∃ cs : Array Value, k ≤ m ∧ i = .int .i64 k ∧ Hid (wr.heap[g]? = some (.cells cs 5 (0, 0)) ∧ cs.size = m ∧ (∀ j, j < k → cs[j]? = some (.int .u8 (bx (l.getD j 0) (l'.getD j 0)))) ∧ wr.heap[h]? = some (.cells (madeCells #[.int .u8 0] m) 5 (0, 0))) ∧ Below w1.heap.size w1 wr) (fun _ i _ => m - (intOf i).toNat)
      case atStart => exact ⟨0, _, Nat.zero_le _, rfl, Lib.hid ⟨HXZ.out.1, made_size _ _, fun j hj => absurd hj (by omega), HXZ.out.2.1⟩, HXZ.out.2.2⟩
      case round =>
        clear HXZ
        obtain ⟨k, cs, hk, rfl, HC, hbel⟩ := hrel
        by_cases hlt : k < m
        · obtain ⟨b, off, rfl, hbl, d0⟩ := (k1.below (hbel.mono hs1)).at_ (i := k) (by omega)
          obtain ⟨b', off', rfl, hbl', d1⟩ := (k2.below (hbel.mono hs1)).at_ (i := k) (by omega)
          obtain ⟨u, hc⟩ : ∃ u, wr.cell? ⟨g, k, none⟩ = some u := ⟨cs[k]'(by have := HC.out.2.1; omega), by rw [blk_cell HC.out.1]; simp [HC.out.2.1, hlt]⟩
          have hf := blk_free HC.out.1 k
          have hset := blk_set HC.out.1 k (.int .u8 (bx (l.getD k 0) (l'.getD k 0)))
          have HS := Lib.hid hset; clear hset
          have hv := k1.1.at_ k
          have hv' := k2.1.at_ k
          obtain ⟨x, hx⟩ : ∃ x, bx (l.getD k 0) (l'.getD k 0) = x := ⟨_, rfl⟩
          rw [hx] at HS
          have HX := Lib.hid hx
          have hbx : bits .xor .u8 (l.getD k 0) (l'.getD k 0) = x := hx
          clear hx
          obtain ⟨y, hy⟩ : ∃ y, l.getD k 0 = y := ⟨_, rfl⟩
          obtain ⟨y', hy'⟩ : ∃ y', l'.getD k 0 = y' := ⟨_, rfl⟩
          rw [hy] at d0 hbx hv
          rw [hy'] at d1 hbx hv'
          clear hy hy'
          have i0 : (0 : Int) ≤ (k : Int) := by omega
          have i1 : (k : Int) < m := by omega
          have i2 : (k : Int) < l.length := by omega
          have i3 : (k : Int) < l'.length := by omega
          go_wp2_with fail
          go_region
          go_wp2_with fail
          go_roundw
          case rel => exact ⟨k + 1, _, by omega, by go_num, Lib.hid ⟨HS.out, by simpa using HC.out.2.1, fun j hj => by
            by_cases hjk : j = k
            · subst hjk; rw [HX.out]; simp [HC.out.2.1, hlt]
            · rw [Array.getElem?_setIfInBounds_ne (by omega)]; exact HC.out.2.2.1 j (by omega), (Below.heap_setCell _ ⟨g, k, none⟩ _ h (fun e => hgh e.symm)).trans HC.out.2.2.2⟩, (low_drewN hbel 1).setCell hg1 _⟩
          case measure => simp [intOf]; omega
        · obtain rfl : k = m := by omega
          have hlx := cells_list HC.out.2.1 HC.out.2.2.1
          have hbx : Bs wr wr.heap.size (some ⟨g, 0, none⟩) (xl l l' k) := row_bs HC.out.1 hlx hxb
          have hlz : (madeCells #[.int .u8 0] k).toList = (List.replicate k (0 : Int)).map (Value.int .u8) := list_of_get (by simp [made_size]) (fun i hi => by
            simp only [List.length_map, List.length_replicate] at hi
            simp [madeCells, hi, Nat.mod_one])
          have hbz : Bs wr wr.heap.size (some ⟨h, 0, none⟩) (List.replicate k 0) := row_bs HC.out.2.2.2 hlz (fun x hx => by rw [List.eq_of_mem_replicate hx]; decide)
          have q1 := (k1.below (hbel.mono hs1)).more (B' := wr.heap.size) (by have := hbel.size; omega)
          have q2 := (k2.below (hbel.mono hs1)).more (B' := wr.heap.size) (by have := hbel.size; omega)
          have hlin := sum_linear k1.1 k2.1 k hml hml'
          have hbw := hbel.mono hs1
          have HQ := Lib.hid (And.intro q1 (And.intro q2 (And.intro hbx (And.intro hbz (And.intro hlin (hb1.trans hbw))))))
          clear HC hlx hlz hbx hbz q1 q2 hlin hbw hbel k1 k2
          go_wp2_with fail
          rename_i hK
          obtain ⟨q1, q2, q3, q4, hlin, hbw⟩ := HQ.out
          have q1 := bs_take q1 k
          have q2 := bs_take q2 k
          have n1 : (l.take k).length = k := by simp; omega
          have n2 : (l'.take k).length = k := by simp; omega
          have n3 : (xl l l' k).length = k := xl_len _ _ _
          have n4 : (List.replicate k (0 : Int)).length = k := by simp
          have hk47 : k ≤ 140737488355328 := by omega
          have hkc : k ≤ c := by omega
          have hkc' : k ≤ c' := by omega
          generalize l.take k = p1 at *
          generalize l'.take k = p2 at *
          generalize xl l l' k = p3 at *
          generalize List.replicate k (0 : Int) = p4 at *
          obtain ⟨s1, e1⟩ : ∃ s, sumOf 0 p1 = s := ⟨_, rfl⟩
          obtain ⟨s2, e2⟩ : ∃ s, sumOf 0 p2 = s := ⟨_, rfl⟩
          obtain ⟨s3, e3⟩ : ∃ s, sumOf 0 p3 = s := ⟨_, rfl⟩
          obtain ⟨s4, e4⟩ : ∃ s, sumOf 0 p4 = s := ⟨_, rfl⟩
          rw [e1, e2, e3, e4] at hlin
          obtain ⟨x, hx⟩ : ∃ x, bits .xor .i64 s1 s2 = x := ⟨_, rfl⟩
          have hx' : bits .xor .i64 s3 s4 = x := hlin.symm.trans hx
          clear HQ HM hlin
          refine wp_region_inv (C := fun W => Below wr.heap.size wr W) (G := GL [.slice a l.length c, .int .i64 k, .slice a k c, .slice a k c, .int .i64 s1, .slice a' l'.length c', .int .i64 k, .slice a' k c', .slice a' k c', .int .i64 s2, .int .i64 x, .slice (some ⟨g, 0, none⟩) k k, .slice (some ⟨g, 0, none⟩) k k, .int .i64 s3, .slice (some ⟨h, 0, none⟩) k k, .slice (some ⟨h, 0, none⟩) k k, .int .i64 s4, .int .i64 x, .bool true, .bool true]) (R := fun w w' => Below w.heap.size w w') (by kernel_rfl) (ordB_spec (by kernel_rfl)) (dstB_spec (by kernel_rfl)) (inB_spec (by kernel_rfl)) ⟨rfl, rfl, rfl, Nat.le_refl _, fun _ _ => rfl⟩ GL.stab ?step ?fin
          case step =>
            intro i o a1 w2 ho hC hdep hsame
            have hsz := hC.size
            have hlt20 : i < 20 := lt_of_some ho
            match i, hlt20, ho with
            | 0, _, ho =>
              obtain rfl := Option.some.inj ho
              exact step_pure ho rfl (x_move (v := .slice a l.length c) rfl (hsame 0 (notB_spec (by kernel_rfl)))) rfl hC (Below.refl _ _)
            | 1, _, ho =>
              obtain rfl := Option.some.inj ho
              exact step_pure ho rfl (x_move (v := .int .i64 k) rfl (hsame 5 (notB_spec (by kernel_rfl)))) rfl hC (Below.refl _ _)
            | 2, _, ho =>
              obtain rfl := Option.some.inj ho
              have h1 : a1.eval (.tmp 38) = .slice a l.length c := hdep ⟨0, .data⟩ (by simp) rfl _ _ rfl rfl
              have h2 : a1.eval (.tmp 39) = .int .i64 k := hdep ⟨1, .data⟩ (by simp) rfl _ _ rfl rfl
              exact step_pure ho rfl (x_slice rfl h1 h2 hkc) rfl hC (Below.refl _ _)
            | 3, _, ho =>
              obtain rfl := Option.some.inj ho
              have h1 : a1.eval (.tmp 40) = .slice a k c := hdep ⟨2, .data⟩ (by simp) rfl _ _ rfl rfl
              exact step_mem ho rfl (x_lit rfl h1) (PartV.new w2 (.slice a k c) _) (hC.alloc hsz _) ((Below.refl _ _).alloc (Nat.le_refl _) _)
            | 4, _, ho =>
              obtain rfl := Option.some.inj ho
              have h1 : PartV w2 (.slice a k c) (a1.eval (.tmp 41)) := hdep ⟨3, .data⟩ (by simp) rfl _ _ rfl rfl
              exact step_call ho rfl (x_call rfl) ((h1.call ((q1.below hC).more hsz) n1 hk47).mono fun e w' hh => ⟨by rw [hh.1, e1]; rfl, rfl, hC.trans (hh.2.mono hsz), hh.2⟩)
            | 5, _, ho =>
              obtain rfl := Option.some.inj ho
              exact step_pure ho rfl (x_move (v := .slice a' l'.length c') rfl (hsame 1 (notB_spec (by kernel_rfl)))) rfl hC (Below.refl _ _)
            | 6, _, ho =>
              obtain rfl := Option.some.inj ho
              exact step_pure ho rfl (x_move (v := .int .i64 k) rfl (hsame 5 (notB_spec (by kernel_rfl)))) rfl hC (Below.refl _ _)
            | 7, _, ho =>
              obtain rfl := Option.some.inj ho
              have h1 : a1.eval (.tmp 43) = .slice a' l'.length c' := hdep ⟨5, .data⟩ (by simp) rfl _ _ rfl rfl
              have h2 : a1.eval (.tmp 44) = .int .i64 k := hdep ⟨6, .data⟩ (by simp) rfl _ _ rfl rfl
              exact step_pure ho rfl (x_slice rfl h1 h2 hkc') rfl hC (Below.refl _ _)
            | 8, _, ho =>
              obtain rfl := Option.some.inj ho
              have h1 : a1.eval (.tmp 45) = .slice a' k c' := hdep ⟨7, .data⟩ (by simp) rfl _ _ rfl rfl
              exact step_mem ho rfl (x_lit rfl h1) (PartV.new w2 (.slice a' k c') _) (hC.alloc hsz _) ((Below.refl _ _).alloc (Nat.le_refl _) _)
            | 9, _, ho =>
              obtain rfl := Option.some.inj ho
              have h1 : PartV w2 (.slice a' k c') (a1.eval (.tmp 46)) := hdep ⟨8, .data⟩ (by simp) rfl _ _ rfl rfl
              exact step_call ho rfl (x_call rfl) ((h1.call ((q2.below hC).more hsz) n2 hk47).mono fun e w' hh => ⟨by rw [hh.1, e2]; rfl, rfl, hC.trans (hh.2.mono hsz), hh.2⟩)
            | 10, _, ho =>
              obtain rfl := Option.some.inj ho
              have h1 : a1.eval (.tmp 42) = .int .i64 s1 := hdep ⟨4, .data⟩ (by simp) rfl _ _ rfl rfl
              have h2 : a1.eval (.tmp 47) = .int .i64 s2 := hdep ⟨9, .data⟩ (by simp) rfl _ _ rfl rfl
              exact step_pure ho rfl ((x_xor rfl h1 h2).trans (by rw [hx]; rfl)) rfl hC (Below.refl _ _)
            | 11, _, ho =>
              obtain rfl := Option.some.inj ho
              exact step_pure ho rfl (x_move (v := .slice (some ⟨g, 0, none⟩) k k) rfl (hsame 6 (notB_spec (by kernel_rfl)))) rfl hC (Below.refl _ _)
            | 12, _, ho =>
              obtain rfl := Option.some.inj ho
              have h1 : a1.eval (.tmp 49) = .slice (some ⟨g, 0, none⟩) k k := hdep ⟨11, .data⟩ (by simp) rfl _ _ rfl rfl
              exact step_mem ho rfl (x_lit rfl h1) (PartV.new w2 (.slice (some ⟨g, 0, none⟩) k k) _) (hC.alloc hsz _) ((Below.refl _ _).alloc (Nat.le_refl _) _)
            | 13, _, ho =>
              obtain rfl := Option.some.inj ho
              have h1 : PartV w2 (.slice (some ⟨g, 0, none⟩) k k) (a1.eval (.tmp 50)) := hdep ⟨12, .data⟩ (by simp) rfl _ _ rfl rfl
              exact step_call ho rfl (x_call rfl) ((h1.call ((q3.below hC).more hsz) n3 hk47).mono fun e w' hh => ⟨by rw [hh.1, e3]; rfl, rfl, hC.trans (hh.2.mono hsz), hh.2⟩)
            | 14, _, ho =>
              obtain rfl := Option.some.inj ho
              exact step_pure ho rfl (x_move (v := .slice (some ⟨h, 0, none⟩) k k) rfl (hsame 7 (notB_spec (by kernel_rfl)))) rfl hC (Below.refl _ _)
            | 15, _, ho =>
              obtain rfl := Option.some.inj ho
              have h1 : a1.eval (.tmp 52) = .slice (some ⟨h, 0, none⟩) k k := hdep ⟨14, .data⟩ (by simp) rfl _ _ rfl rfl
              exact step_mem ho rfl (x_lit rfl h1) (PartV.new w2 (.slice (some ⟨h, 0, none⟩) k k) _) (hC.alloc hsz _) ((Below.refl _ _).alloc (Nat.le_refl _) _)
            | 16, _, ho =>
              obtain rfl := Option.some.inj ho
              have h1 : PartV w2 (.slice (some ⟨h, 0, none⟩) k k) (a1.eval (.tmp 53)) := hdep ⟨15, .data⟩ (by simp) rfl _ _ rfl rfl
              exact step_call ho rfl (x_call rfl) ((h1.call ((q4.below hC).more hsz) n4 hk47).mono fun e w' hh => ⟨by rw [hh.1, e4]; rfl, rfl, hC.trans (hh.2.mono hsz), hh.2⟩)
            | 17, _, ho =>
              obtain rfl := Option.some.inj ho
              have h1 : a1.eval (.tmp 51) = .int .i64 s3 := hdep ⟨13, .data⟩ (by simp) rfl _ _ rfl rfl
              have h2 : a1.eval (.tmp 54) = .int .i64 s4 := hdep ⟨16, .data⟩ (by simp) rfl _ _ rfl rfl
              exact step_pure ho rfl ((x_xor rfl h1 h2).trans (by rw [hx']; rfl)) rfl hC (Below.refl _ _)
            | 18, _, ho =>
              obtain rfl := Option.some.inj ho
              have h1 : a1.eval (.tmp 48) = .int .i64 x := hdep ⟨10, .data⟩ (by simp) rfl _ _ rfl rfl
              have h2 : a1.eval (.tmp 55) = .int .i64 x := hdep ⟨17, .data⟩ (by simp) rfl _ _ rfl rfl
              exact step_pure ho rfl (x_eql rfl h1 h2) rfl hC (Below.refl _ _)
            | 19, _, ho =>
              obtain rfl := Option.some.inj ho
              have h1 : a1.eval (.tmp 56) = .bool true := hdep ⟨18, .data⟩ (by simp) rfl _ _ rfl rfl
              exact step_pure ho rfl (x_assign rfl h1) rfl hC (Below.refl _ _)
            | n + 20, h, _ => exact absurd h (by omega)
          case fin =>
            intro a1 w2 hC hgood hsame hsize hdef
            refine hK _ _ (wp_ret ?_)
            have h4 : a1.eval (.tmp 4) = .bool true := hgood 19 _ _ rfl rfl
            show bodyPost Try.prog Try.f5 (fun e w' => e = .returned (.bool true) ∧ Below w.heap.size w w') .ret a1 w2
            exact bodyPost_ret (results_tmp rfl _ _ _) (hdef.trans rfl) ⟨congrArg Ending.returned h4, hbw.trans (hC.mono hbw.size)⟩
end Go.Proofs.Ytfgifimmdkiejaa
