/- What the document's own prefix codes do: contract of New of samovarref05. Condition: the lengths fit their kinds. -/
import Derived.Test.YtpnnfekfoomgaaaDoorRef5
import Derived.Test.YtpnnfekfoomgaaaDoorApp
import Derived.Laws.ResultCell
import Derived.Deep.DeepCutAuto
set_option linter.unusedVariables false
set_option maxRecDepth 100000
namespace Go.Proofs.YtpnnfekfoomgaaaDoor
open Go.RowKit

def nsOf (q : List Int) : List Nat := q.map Int.toNat
def allN (ns : List Nat) : Nat := (ns.filter fun n => n != 0).length
def inR (q : List Int) : Bool := q.all fun x => decide (0 ≤ x ∧ x ≤ 15)
def okN (ns : List Nat) (lone : Bool) : Bool := decide (kraft ns = 32768) || lone && (decide (allN ns = 0) || decide (allN ns = 1) && decide (ns.count 1 = 1))
def errN (q : List Int) (lone : Bool) : Int := if 288 < q.length then 1 else if inR q then (if okN (nsOf q) lone then 0 else 5) else 1
/-- all values are of one cell -/
def AllOne (cs : Array Value) : Prop := cs.all (·.oneCell') = true
def zeroCode : Array Value := #[.int .i64 0, .int .i64 0, .int .i64 0, .int .i64 0, .int .i64 0, .int .i64 0, .int .i64 0, .int .i64 0, .int .i64 0, .int .i64 0, .int .i64 0, .int .i64 0, .int .i64 0, .int .i64 0, .int .i64 0, .int .i64 0, .slice none 0 0, .slice none 0 0, .slice none 0 0, .slice none 0 0, .slice none 0 0, .slice none 0 0, .slice none 0 0, .slice none 0 0, .slice none 0 0, .slice none 0 0, .slice none 0 0, .slice none 0 0, .slice none 0 0, .slice none 0 0, .slice none 0 0, .slice none 0 0]
theorem zeroC (W : World) : (zeroValue 65).run Tryd.prog W = .ok (.agg zeroCode) W := by kernel_rfl
theorem code_st {ops : Array Oper} {rest : List Oper} {op : Oper} {a : Act} {W : World} {Q : Exit → Act → World → Prop} {x y : Operand} {cs old : Array Value} (hgd : op.guard = none) (ho : op.op = .store 65 x y) (b : Nat) (hx : a.eval x = .pointer (some ⟨b, 0, none⟩)) (hy : a.eval y = .agg cs) (hs : cs.size = 32) (ho' : old.size = 32) (h1 : cs.all (·.oneCell') = true) (hh : W.heap[b]? = some (.cells old 65 (0, 0)))
    (h : wpList Tryd.prog ops Q rest (a.put op.dst undef) (W.setRow b cs)) : wpList Tryd.prog ops Q (op :: rest) a W :=
  wpList_plain hgd fun _ hK => by
    have hi : (Tryd.prog.info? 65).map (·.size) = some cs.size := by rw [hs]; kernel_rfl
    unfold Oper.wp execOp
    simp only [ho, hx, hy, Instr.storeAt, Instr.sureAddr, Sem.run_bind, Sem.run_pure, Result.andThen_ok, run_storeVar_row W b 65 65 old cs hh hi (by omega) h1]
    exact hK _ _ h
theorem code_ret {fn : Func} {tmps : Array Value} {W : World} {b : Nat} {cs : Array Value} (hf : fn.results = #[.cell 4 65, .tmp 5]) (h4 : tmps.getD 4 undef = .pointer (some ⟨b, 0, none⟩)) (hs : cs.size = 32) (hh : W.heap[b]? = some (.cells cs 65 (0, 0))) :
    (results fn tmps).run Tryd.prog W = .ok (.tuple #[.agg cs, tmps.getD 5 undef]) W := by
  have hl := run_loadVar_row (P := Tryd.prog) W b _ 65 cs (0, 0) _ hh Tryd.underlying65 rfl (by rw [hs]; kernel_rfl)
  rw [results_cell_tmp hf, h4]
  simp [asAddr, Result.andThen, hl]
theorem take_facts (q : List Int) {k : Nat} (hk : k < q.length) : kraft (nsOf (q.take (k + 1))) = kraft (nsOf (q.take k)) + (if (q.getD k 0).toNat = 0 then 0 else 2 ^ (15 - (q.getD k 0).toNat)) ∧ (nsOf (q.take (k + 1))).count 1 = (nsOf (q.take k)).count 1 + (if (q.getD k 0).toNat = 1 then 1 else 0) ∧ allN (nsOf (q.take (k + 1))) = allN (nsOf (q.take k)) + (if (q.getD k 0).toNat = 0 then 0 else 1) ∧ inR (q.take (k + 1)) = (inR (q.take k) && decide (0 ≤ q.getD k 0 ∧ q.getD k 0 ≤ 15)) := by
  have e : q.take (k + 1) = q.take k ++ [q.getD k 0] := by rw [List.take_succ_eq_append_getElem hk, List.getD_eq_getElem?_getD, List.getElem?_eq_getElem hk]; rfl
  rw [e]
  generalize q.getD k 0 = x
  generalize q.take k = l
  refine ⟨?_, ?_, ?_, ?_⟩
  · simp [kraft, nsOf]
  · simp only [nsOf, List.map_append, List.map_cons, List.map_nil, List.count_append, List.count_cons, List.count_nil]
    by_cases h : x.toNat = 1 <;> simp [h]
  · unfold allN nsOf
    rw [List.map_append, List.filter_append, List.length_append]
    congr 1
    by_cases h : x.toNat = 0 <;> simp [h]
  · simp [inR]
theorem bounds (q : List Int) {k : Nat} (hk : k ≤ q.length) (h : q.length ≤ 288) : kraft (nsOf (q.take k)) ≤ 9437184 ∧ (nsOf (q.take k)).count 1 ≤ 288 ∧ allN (nsOf (q.take k)) ≤ 288 := by
  have hl : (nsOf (q.take k)).length ≤ 288 := by simp [nsOf]; omega
  generalize nsOf (q.take k) = ns at *
  refine ⟨?_, Nat.le_trans List.count_le_length hl, Nat.le_trans (List.length_filter_le _ _) hl⟩
  have hk : ∀ ns : List Nat, kraft ns ≤ 32768 * ns.length := fun ns => by
    induction ns with
    | nil => simp [kraft]
    | cons x ns ih =>
      have e : kraft (x :: ns) = (if x = 0 then 0 else 2 ^ (15 - x)) + kraft ns := by simp [kraft]
      have h2 : 2 ^ (15 - x) ≤ 2 ^ 15 := Nat.pow_le_pow_right (by decide) (by omega)
      rw [(by decide : 2 ^ 15 = 32768)] at h2
      rw [e, List.length_cons]
      split <;> omega
  have := hk ns
  omega
theorem low_setRow {B g : Nat} {w0 w : World} (hb : Below B w0 w) (hBg : B ≤ g) (cs : Array Value) : Below B w0 (w.setRow g cs) := hb.trans ⟨rfl, rfl, rfl, by simp, fun k hk => setRow_other w g k cs (by omega)⟩
theorem shl_sum (S X : Nat) (hS : S ≤ 9437184) : wrap64 ((S : Int) + wrap64 (2 ^ (15 - X))) = ((S + 2 ^ (15 - X) : Nat) : Int) := by
  have h1 : 2 ^ (15 - X) ≤ 32768 := Nat.pow_le_pow_right (n := 2) (by decide) (Nat.sub_le 15 X)
  rw [pow_cast]
  generalize 2 ^ (15 - X) = pw at h1 ⊢
  have h2 := wrap64_in (pw : Int) (by omega)
  rw [h2, wrap64_in _ (by omega)]
  omega
theorem zero_size : zeroCode.size = 32 := rfl
theorem zero_one : zeroCode.all (·.oneCell') = true := by kernel_rfl
theorem two_new (w : World) (o1 o2 : Obj) : ((w.alloc o1).alloc o2).heap[w.heap.size]? = some o1 ∧ ((w.alloc o1).alloc o2).heap[w.heap.size + 1]? = some o2 ∧ Below w.heap.size w ((w.alloc o1).alloc o2) :=
  ⟨(Below.heap_alloc _ _ _ (by simp)).trans (heap_alloc_new w o1), by simpa using heap_alloc_new (w.alloc o1) o2, ((Below.refl _ _).alloc (Nat.le_refl _) _).alloc (by simp) _⟩
/-- the number behind the last word of k bits -/
def pnext (ns : List Nat) (k : Nat) : Nat := if k = 0 then 0 else pfirst ns k + pcnt ns k
theorem pnext_two (ns : List Nat) {n : Nat} (h : 1 ≤ n) : 2 * pnext ns (n - 1) = pfirst ns n := by
  obtain ⟨k, rfl⟩ : ∃ k, n = k + 1 := ⟨n - 1, by omega⟩
  rw [Nat.add_sub_cancel]
  rcases Nat.eq_zero_or_pos k with rfl | h0
  · rfl
  · rw [pfirst_step ns h0, pnext, if_neg (by omega)]
theorem pfirst_rough (ns : List Nat) (hl : ns.length ≤ 288) : ∀ n, pfirst ns (n + 1) + 576 ≤ 576 * 2 ^ (n + 1)
  | 0 => by simp [pfirst]
  | n + 1 => by
    have ih := pfirst_rough ns hl n
    have hc : pcnt ns (n + 1) ≤ 288 := Nat.le_trans List.count_le_length hl
    rw [pfirst_step ns (by omega), Nat.pow_succ]
    omega
theorem pfirst_bd (ns : List Nat) (hl : ns.length ≤ 288) {n : Nat} (h0 : 1 ≤ n) (h1 : n ≤ 15) : pfirst ns n ≤ 18874368 := by
  obtain ⟨k, rfl⟩ : ∃ k, n = k + 1 := ⟨n - 1, by omega⟩
  have h2 := pfirst_rough ns hl k
  have h3 : 2 ^ (k + 1) ≤ 32768 := Nat.pow_le_pow_right (n := 2) (by decide) h1
  generalize 2 ^ (k + 1) = p at *
  omega
/-- what the cells say of the words of m bits, when those of less than n bits are made -/
def StC (W : World) (F : Nat → Prop) (ns : List Nat) (cs : Array Value) (n m : Nat) : Prop :=
  if m < n then cs[m]? = some (.int .i64 (pfirst ns m)) ∧ ∃ a c, cs[16 + m]? = some (.slice a (pcnt ns m) c) ∧ Row W F a (pidx ns m) else cs[16 + m]? = some (.slice none 0 0)
theorem StC.keep {W W' : World} {F F' : Nat → Prop} {ns : List Nat} {cs cs' : Array Value} {n m : Nat} (h : StC W F ns cs n m) (hs : ∀ b, F b → W'.heap[b]? = W.heap[b]?) (hF : ∀ b, F b → F' b) (h1 : cs'[m]? = cs[m]?) (h2 : cs'[16 + m]? = cs[16 + m]?) : StC W' F' ns cs' n m := by
  unfold StC at *
  rw [h1, h2]
  split at h
  · rename_i hlt
    rw [if_pos hlt]
    obtain ⟨g1, a, c, g2, g3⟩ := h
    exact ⟨g1, a, c, g2, (g3.keep hs).more hF⟩
  · rename_i hlt
    rw [if_neg hlt]; exact h
theorem StC.next {W : World} {F : Nat → Prop} {ns : List Nat} {cs : Array Value} {n m : Nat} (h : StC W F ns cs n m) (hm : m ≠ n) : StC W F ns cs (n + 1) m := by
  unfold StC at *
  by_cases hlt : m < n
  · rw [if_pos hlt] at h; rw [if_pos (by omega)]; exact h
  · rw [if_neg hlt] at h; rw [if_neg (by omega)]; exact h
/-- of the first s symbols those with words of n bits -/
def pidxTo (ns : List Nat) (n s : Nat) : List Nat := (List.range s).filter fun i => ns.getD i 0 == n
theorem pidxTo_succ (ns : List Nat) (n s : Nat) : pidxTo ns n (s + 1) = pidxTo ns n s ++ (if ns.getD s 0 = n then [s] else []) := by
  unfold pidxTo
  rw [List.range_succ, List.filter_append, List.filter_cons, List.filter_nil]
  by_cases e : ns.getD s 0 = n
  · rw [if_pos (by rw [e]; simp), if_pos e]
  · rw [if_neg (by rw [beq_iff_eq]; exact e), if_neg e]
theorem pidxTo_le (ns : List Nat) (n s : Nat) : (pidxTo ns n s).length ≤ s := Nat.le_trans (List.length_filter_le _ _) (by simp)
theorem add_off' (b k : Nat) : (⟨b, 0, none⟩ : Addr).add k = ⟨b, k, none⟩ := by unfold Addr.add; split <;> simp_all
theorem row_of_own {W : World} {base : Nat} {a : Option Addr} {k c : Nat} {l : List Nat} (h : W.ownsRow base 3 1 (.slice a k c) k (l.map fun (i : Nat) => Value.int .i64 (i : Int))) (hl : l.length = k) : Row W (fun b => base ≤ b ∧ b < W.heap.size) a l := fun hp => by
  obtain ⟨g, cap, hv, hg, hlt⟩ := h.form (by omega)
  have hA : a = some ⟨g, 0, none⟩ := by injection hv
  subst hA
  refine ⟨g, 0, rfl, ⟨hg, hlt⟩, fun i t ht => ?_⟩
  have := h.cells (g := g) rfl i (.int .i64 (t : Int)) (by rw [List.getElem?_map, ht]; rfl)
  rw [add_off'] at this
  rw [Nat.zero_add]; exact this
theorem own_ne {W : World} {base : Nat} {t : TypeId} {a : Option Addr} {k c i : Nat} {xs : List Value} (h : W.ownsRow base t 1 (.slice a k c) k xs) (hi : i < base) : (Value.slice a k c).ownBlock ≠ some i := by
  rcases h.2 with ⟨e, _⟩ | ⟨g, cap, cur, e, hg, _⟩
  · rw [e]; simp [Value.ownBlock]
  · rw [e]; intro q; simp [Value.ownBlock] at q; omega
theorem int_info : (Tryd.prog.info? 3).map (fun i => (i.zero, i.size, i.bytes)) = some (some (.int .i64 0), 1, 8) := by kernel_rfl
theorem all_set {cs : Array Value} (h : cs.all (·.oneCell') = true) (i : Nat) {v : Value} (hv : v.oneCell' = true) : (cs.setIfInBounds i v).all (·.oneCell') = true := by
  rw [Array.all_eq_true_iff_forall_mem] at h ⊢
  intro u hu
  rcases Array.mem_or_eq_of_mem_setIfInBounds hu with q | q
  · exact h u q
  · rw [q]; exact hv
theorem nsOf_get {q : List Int} (h : inR q = true) (i : Nat) : q.getD i 0 = (((nsOf q).getD i 0 : Nat) : Int) ∧ (nsOf q).getD i 0 ≤ 15 := by
  unfold nsOf
  rw [List.getD_eq_getElem?_getD, List.getD_eq_getElem?_getD, List.getElem?_map]
  by_cases hi : i < q.length
  · rw [List.getElem?_eq_getElem hi]
    rw [inR, List.all_eq_true] at h
    have := h q[i] (List.getElem_mem hi)
    simp at this
    simp; omega
  · rw [List.getElem?_eq_none (by omega)]; simp
set_option maxRecDepth 100000 in
set_option maxHeartbeats 4000000 in
theorem refNew {w : World} (a : Option Addr) (n c : Nat) (q : List Int) (hn : q.length = n) (hm : n ≤ 140737488355328) (hb : Ints .i64 w w.heap.size a q) (lone : Bool) :
    Calls Tryd.prog 26 #[.slice a n c, .bool lone] w fun e w' => Below w.heap.size w w' ∧ ∃ cs, cs.size = 32 ∧ AllOne cs ∧ e = .returned (.tuple #[.agg cs, .int .i64 (errN q lone)]) ∧ (errN q lone = 0 → Cd w' (fun b => w.heap.size ≤ b ∧ b < w'.heap.size) (nsOf q) cs) := by
  subst hn
  have hz := zeroC
  go_enter Tryd.func26, Tryd.ntmps26
  go_upto_region 2 with (fail)
  have hnew := two_new w (.cells zeroCode 65) (.cells zeroCode 65)
  have hsz : ((w.alloc (.cells zeroCode 65)).alloc (.cells zeroCode 65)).heap.size = w.heap.size + 2 := by simp
  generalize (w.alloc (.cells zeroCode 65)).alloc (.cells zeroCode 65) = w6 at *
  obtain ⟨hh4, hh6, hbel⟩ := hnew
  generalize hzc : zeroCode = zc at *
  have hzs : zc.size = 32 := by rw [← hzc]; rfl
  have hz1 : zc.all (·.oneCell') = true := by rw [← hzc]; exact zero_one
  by_cases hlen : 288 < q.length
  · have he : errN q lone = 1 := by unfold errN; rw [if_pos hlen]
    go_wp2_with (first | refine code_ld rfl rfl (w.heap.size + 1) rfl hzs hh6 ?_ | refine code_st rfl rfl w.heap.size rfl rfl hzs hzs hz1 hh4 ?_)
    exact bodyPost_ret (code_ret rfl rfl hzs (setRow_heap _ _ _ _ _ _ hh4)) rfl ⟨low_setRow hbel (Nat.le_refl _) _, zc, hzs, hz1, by rw [he]; rfl, fun h => by rw [he] at h; cases h⟩
  · have hb6 := hb.below hbel
    clear hz
    go_wp2_with fail
    go_loop [7, 8, 9, 10] (fun s o al i => ∃ k : Nat, k ≤ q.length ∧ i = .int .i64 k ∧ s = .int .i64 (kraft (nsOf (q.take k))) ∧ o = .int .i64 ((nsOf (q.take k)).count 1) ∧ al = .int .i64 (allN (nsOf (q.take k))) ∧ Hid (inR (q.take k) = true)) (fun _ _ _ i => q.length - (intOf i).toNat)
    case atStart => exact ⟨0, Nat.zero_le _, rfl, rfl, rfl, rfl, Lib.hid rfl⟩
    case round =>
      obtain ⟨k, hk, rfl, rfl, rfl, rfl, HI⟩ := hrel
      by_cases hlt : k < q.length
      · obtain ⟨b, off, rfl, hbl, hc, hwf⟩ := hb6.at_ hlt
        obtain ⟨h1, h2, h3, h4⟩ := take_facts q hlt
        obtain ⟨x, hx⟩ : ∃ x, q.getD k 0 = x := ⟨_, rfl⟩
        rw [hx] at hc h1 h2 h3 h4
        have hbd := bounds q hk (by omega)
        by_cases hin : 0 ≤ x ∧ x ≤ 15
        · obtain ⟨X, rfl⟩ := Int.eq_ofNat_of_zero_le hin.1
          have eX : ((X : Int)).toNat = X := by omega
          rw [eX] at h1 h2 h3
          have H1 := Lib.hid h1
          have H2 := Lib.hid h2
          have H3 := Lib.hid h3
          have H4 := Lib.hid h4
          have HX := Lib.hid hx
          obtain ⟨hbd1, hbd2, hbd3⟩ := hbd
          clear h1 h2 h3 h4 hx hwf eX
          generalize kraft (nsOf (q.take k)) = S at *
          generalize (nsOf (q.take k)).count 1 = O at *
          generalize allN (nsOf (q.take k)) = L at *
          have n1 : ¬ ((X : Int) < 0) := by omega
          have n2 : ¬ ((15 : Int) < X) := by omega
          have n3 : (X : Int) ≤ 15 := by omega
          by_cases hX0 : X = 0
          · subst hX0
            go_wp2_with fail
            exact ⟨⟨k + 1, by omega, by go_num, by rw [H1.out]; simp, by rw [H2.out]; simp, by rw [H3.out]; simp, Lib.hid (by rw [H4.out, HI.out]; simp)⟩, by simp [intOf]; omega⟩
          · have hX1 : 0 < (X : Int) := by omega
            by_cases hX : X = 1
            · subst hX
              go_wp2_with fail
              exact ⟨⟨k + 1, by omega, by go_num, by rw [H1.out]; simp, by rw [H2.out]; simp, by rw [H3.out]; simp, Lib.hid (by rw [H4.out, HI.out]; simp)⟩, by simp [intOf]; omega⟩
            · have hX2 : ((X : Int) == 1) = false := by simp; omega
              have hwr := shl_sum S X hbd1
              have HW := Lib.hid hwr
              clear hwr
              go_wp2_with fail
              exact ⟨⟨k + 1, by omega, by go_num, by rw [H1.out, HW.out, if_neg hX0], by rw [H2.out, if_neg hX]; simp, by rw [H3.out, if_neg hX0]; simp, Lib.hid (by rw [H4.out, HI.out]; simp; omega)⟩, by simp [intOf]; omega⟩
        · have he : errN q lone = 1 := by
            unfold errN
            rw [if_neg hlen, if_neg]
            intro h
            rw [inR, List.all_eq_true] at h
            have := h x (by rw [← hx, List.getD_eq_getElem?_getD, List.getElem?_eq_getElem hlt]; exact List.getElem_mem hlt)
            simp at this; omega
          clear h1 h2 h3 h4 hwf hx
          obtain ⟨hbd1, hbd2, hbd3⟩ := hbd
          by_cases hneg : x < 0
          · go_wp2_with (refine code_st (cs := zeroCode) rfl rfl w.heap.size rfl rfl zero_size hzs zero_one hh4 ?_)
            (try simp only [Exit.inBlock, Exit.then])
            refine bodyPost_ret (code_ret rfl rfl hzs (setRow_heap _ _ _ _ _ _ hh4)) rfl ?_
            first | exact ⟨low_setRow hbel (Nat.le_refl _) _, zc, rfl⟩ | exact ⟨low_setRow hbel (Nat.le_refl _) _, zc, hzs, hz1, rfl⟩ | exact ⟨low_setRow hbel (Nat.le_refl _) _, hzs, hz1⟩ | exact ⟨low_setRow hbel (Nat.le_refl _) _, hz1⟩ | exact ⟨low_setRow hbel (Nat.le_refl _) _, zc, hz1, rfl⟩ | exact ⟨low_setRow hbel (Nat.le_refl _) _, zc, hzs, hz1, by rw [he]; rfl, fun h => by rw [he] at h; cases h⟩
          · have hpos : (15 : Int) < x := by omega
            go_wp2_with (refine code_st (cs := zeroCode) rfl rfl w.heap.size rfl rfl zero_size hzs zero_one hh4 ?_)
            (try simp only [Exit.inBlock, Exit.then])
            refine bodyPost_ret (code_ret rfl rfl hzs (setRow_heap _ _ _ _ _ _ hh4)) rfl ?_
            first | exact ⟨low_setRow hbel (Nat.le_refl _) _, zc, rfl⟩ | exact ⟨low_setRow hbel (Nat.le_refl _) _, zc, hzs, hz1, rfl⟩ | exact ⟨low_setRow hbel (Nat.le_refl _) _, hzs, hz1⟩ | exact ⟨low_setRow hbel (Nat.le_refl _) _, hz1⟩ | exact ⟨low_setRow hbel (Nat.le_refl _) _, zc, hz1, rfl⟩ | exact ⟨low_setRow hbel (Nat.le_refl _) _, zc, hzs, hz1, by rw [he]; rfl, fun h => by rw [he] at h; cases h⟩
      · obtain rfl : k = q.length := by omega
        rw [List.take_length] at HI ⊢
        go_upto_region 17 with (fail)
        go_cut [67] (fun v wx => v = .bool (!okN (nsOf q) lone) ∧ w6 = wx)
        case first =>
          have hok : okN (nsOf q) lone = (decide (kraft (nsOf q) = 32768) || lone && (decide (allN (nsOf q) = 0) || decide (allN (nsOf q) = 1) && decide ((nsOf q).count 1 = 1))) := rfl
          have HOK := Lib.hid hok
          have hbd := bounds q (Nat.le_refl _) (by omega)
          rw [List.take_length] at hbd
          clear hok hb hb6 hh4 hh6
          generalize kraft (nsOf q) = S at *
          generalize (nsOf q).count 1 = O at *
          generalize allN (nsOf q) = L at *
          by_cases hS : S = 32768
          · have hd : ((S : Int) != 32768) = false := by simp [hS]
            have HS := Lib.hid hS
            clear hS
            go_wp2_with fail
            all_goals go_meet
            all_goals exact ⟨by rw [HOK.out]; simp [HS.out], rfl⟩
          · have hd : ((S : Int) != 32768) = true := by simp; omega
            cases lone with
            | false =>
              go_wp2_with fail
              all_goals go_meet
              all_goals exact ⟨by rw [HOK.out]; simp [hS], rfl⟩
            | true =>
              by_cases hL0 : L = 0
              · have hd0 : ((L : Int) == 0) = true := by simp [hL0]
                have HL := Lib.hid hL0
                clear hL0
                go_wp2_with fail
                all_goals go_meet
                all_goals exact ⟨by rw [HOK.out]; simp [HL.out], rfl⟩
              · have hd0 : ((L : Int) == 0) = false := by simp; omega
                by_cases hL1 : L = 1
                · have hd1 : ((L : Int) == 1) = true := by simp [hL1]
                  have HL := Lib.hid hL1
                  clear hL1
                  by_cases hO : O = 1
                  · have hd2 : ((O : Int) == 1) = true := by simp [hO]
                    have HO := Lib.hid hO
                    clear hO
                    go_wp2_with fail
                    all_goals go_meet
                    all_goals exact ⟨by rw [HOK.out]; simp [HL.out, HO.out], rfl⟩
                  · have hd2 : ((O : Int) == 1) = false := by simp; omega
                    go_wp2_with fail
                    all_goals go_meet
                    all_goals exact ⟨by rw [HOK.out]; simp [hS, HL.out, hO], rfl⟩
                · have hd1 : ((L : Int) == 1) = false := by simp; omega
                  go_wp2_with fail
                  all_goals go_meet
                  all_goals exact ⟨by rw [HOK.out]; simp [hS, hL0, hL1], rfl⟩
        case rest =>
          obtain ⟨rfl, rfl⟩ := hcut
          have hbd := bounds q (Nat.le_refl _) (by omega)
          rw [List.take_length] at hbd
          cases hok : okN (nsOf q) lone with
          | false =>
            have he : errN q lone = 5 := by unfold errN; rw [if_neg hlen, if_pos HI.out, if_neg (by rw [hok]; decide)]
            go_wp2_with (refine code_st (cs := zeroCode) rfl rfl w.heap.size rfl rfl zero_size hzs zero_one hh4 ?_)
            (try simp only [Exit.inBlock, Exit.then])
            refine bodyPost_ret (code_ret rfl rfl hzs (setRow_heap _ _ _ _ _ _ hh4)) rfl ?_
            first | exact ⟨low_setRow hbel (Nat.le_refl _) _, zc, rfl⟩ | exact ⟨low_setRow hbel (Nat.le_refl _) _, zc, hzs, hz1, rfl⟩ | exact ⟨low_setRow hbel (Nat.le_refl _) _, hzs, hz1⟩ | exact ⟨low_setRow hbel (Nat.le_refl _) _, hz1⟩ | exact ⟨low_setRow hbel (Nat.le_refl _) _, zc, hz1, rfl⟩ | exact ⟨low_setRow hbel (Nat.le_refl _) _, zc, hzs, hz1, by rw [he]; rfl, fun h => by rw [he] at h; cases h⟩
          | true =>
            have he : errN q lone = 0 := by unfold errN; rw [if_neg hlen, if_pos HI.out, if_pos hok]
            have hq := nsOf_get HI.out
            have hnl : (nsOf q).length = q.length := by simp [nsOf]
            have hrough := fun n h0 h1 => pfirst_bd (nsOf q) (by omega) (n := n) h0 h1
            have hzr : ∀ m, 1 ≤ m → m ≤ 15 → StC w6 (fun b => w.heap.size + 2 ≤ b ∧ b < w6.heap.size) (nsOf q) zc 1 m := fun m h0 h1 => by
              unfold StC
              rw [if_neg (by omega), ← hzc]
              match m, h0, h1 with
              | 1, _, _ => rfl
              | 2, _, _ => rfl
              | 3, _, _ => rfl
              | 4, _, _ => rfl
              | 5, _, _ => rfl
              | 6, _, _ => rfl
              | 7, _, _ => rfl
              | 8, _, _ => rfl
              | 9, _, _ => rfl
              | 10, _, _ => rfl
              | 11, _, _ => rfl
              | 12, _, _ => rfl
              | 13, _, _ => rfl
              | 14, _, _ => rfl
              | 15, _, _ => rfl
              | k + 16, _, h => exact absurd h (by omega)
            obtain ⟨ns, hns⟩ : ∃ ns, nsOf q = ns := ⟨_, rfl⟩
            rw [hns] at hq hnl hrough hzr
            have HZ := Lib.hid hzr
            have HE := Lib.hid he
            have HNS := Lib.hid hns
            have HR := Lib.hid hrough
            have HQ := Lib.hid hq
            have H4 := Lib.hid hh4
            have H6 := Lib.hid hh6
            have hbel0 := hbel
            clear hzr he hns hrough hq hh4 hh6 hok HI hbd hzc
            go_wp2_with fail
            go_loopw [12, 13] (fun x nn wr => ∃ n : Nat, ∃ cs : Array Value, 1 ≤ n ∧ n ≤ 16 ∧ nn = .int .i64 n ∧ x = .int .i64 (pnext ns (n - 1)) ∧ Hid (wr.heap[w.heap.size + 1]? = some (.cells cs 65 (0, 0)) ∧ cs.size = 32 ∧ cs.all (·.oneCell') = true ∧ wr.heap[w.heap.size]? = some (.cells zc 65 (0, 0)) ∧ ∀ m, 1 ≤ m → m ≤ 15 → StC wr (fun b => w.heap.size + 2 ≤ b ∧ b < wr.heap.size) ns cs n m) ∧ Below w.heap.size w wr ∧ w.heap.size + 2 ≤ wr.heap.size) (fun _ nn _ => 16 - (intOf nn).toNat)
            case atStart => exact ⟨1, zc, Nat.le_refl _, by decide, rfl, rfl, Lib.hid ⟨H6.out, hzs, hz1, H4.out, HZ.out⟩, hbel0, by omega⟩
            case round =>
              obtain ⟨n, cs, hn1, hn2, rfl, rfl, HC, hbw, hszw⟩ := hrel
              by_cases hlt : n ≤ 15
              · obtain ⟨u, hcu⟩ : ∃ u, wr.cell? ⟨w.heap.size + 1, n, none⟩ = some u := ⟨cs[n]'(by have := HC.out.2.1; omega), by rw [blk_cell HC.out.1]; simp⟩
                have hfr := blk_free HC.out.1 n
                have hP := pnext_two ns hn1
                have hfb := HR.out n hn1 hlt
                obtain ⟨P, hPe⟩ : ∃ P, pnext ns (n - 1) = P := ⟨_, rfl⟩
                obtain ⟨fi, hfe⟩ : ∃ fi, pfirst ns n = fi := ⟨_, rfl⟩
                rw [hPe, hfe] at hP
                rw [hfe] at hfb
                rw [hPe]
                have HFE := Lib.hid hfe
                have HP := Lib.hid hP
                obtain ⟨wo, hwo⟩ : ∃ x, x = wr := ⟨_, rfl⟩
                subst hwo
                have i0 : (0 : Int) ≤ (n : Int) := by omega
                have i1 : (n : Int) < 16 := by omega
                have i2 : (n : Int) ≤ 15 := by omega
                have P1 : (2 : Int) * P ≤ 18874368 := by omega
                clear hPe hfe hP
                go_wp2_with fail
                have hp2 : (2 : Int) * P = (fi : Int) := by have := HP.out; omega
                rw [hp2]
                have HP2 := Lib.hid hp2
                clear hp2 hcu hfr
                have hset := blk_set HC.out.1 n (.int .i64 fi)
                have hz16 := HC.out.2.2.2.2 n hn1 hlt
                unfold StC at hz16
                rw [if_neg (by omega)] at hz16
                have hoth : ∀ k, k ≠ w.heap.size + 1 → (wo.setCell ⟨w.heap.size + 1, n, none⟩ (.int .i64 fi)).heap[k]? = wo.heap[k]? := fun k hk => Below.heap_setCell _ ⟨w.heap.size + 1, n, none⟩ _ k hk
                have hst0 : ∀ m, 1 ≤ m → m ≤ 15 → m ≠ n → StC (wo.setCell ⟨w.heap.size + 1, n, none⟩ (.int .i64 fi)) (fun b => w.heap.size + 2 ≤ b ∧ b < wo.heap.size) ns (cs.setIfInBounds n (.int .i64 fi)) n m := fun m g0 g1 g2 =>
                  (HC.out.2.2.2.2 m g0 g1).keep (fun b hb => hoth b (by omega)) (fun b hb => hb) (Array.getElem?_setIfInBounds_ne (by omega)) (Array.getElem?_setIfInBounds_ne (by omega))
                have hbw0 : Below w.heap.size w (wo.setCell ⟨w.heap.size + 1, n, none⟩ (.int .i64 fi)) := hbw.setCell (Nat.le_succ _) _
                have hsz0 : (wo.setCell ⟨w.heap.size + 1, n, none⟩ (.int .i64 fi)).heap.size = wo.heap.size := by simp [World.setCell]
                have H0 := Lib.hid (And.intro hset (And.intro hz16 (And.intro hoth (And.intro hst0 hsz0))))
                clear hset hz16 hoth hst0 hsz0
                go_loopw [12, 14] (fun x ss wq => ∃ s : Nat, ∃ cq : Array Value, ∃ (ak : Option Addr) (k ck : Nat), s ≤ q.length ∧ ss = .int .i64 s ∧ k = (pidxTo ns n s).length ∧ x = .int .i64 ((fi + k : Nat) : Int) ∧ Hid (wq.heap[w.heap.size + 1]? = some (.cells cq 65 (0, 0)) ∧ cq.size = 32 ∧ cq.all (·.oneCell') = true ∧ wq.heap[w.heap.size]? = some (.cells zc 65 (0, 0)) ∧ cq[n]? = some (.int .i64 fi) ∧ cq[16 + n]? = some (.slice ak k ck) ∧ wq.ownsRow wo.heap.size 3 1 (.slice ak k ck) k ((pidxTo ns n s).map fun (i : Nat) => Value.int .i64 (i : Int)) ∧ ∀ m, 1 ≤ m → m ≤ 15 → m ≠ n → StC wq (fun b => w.heap.size + 2 ≤ b ∧ b < wo.heap.size) ns cq n m) ∧ Below w.heap.size w wq ∧ wo.heap.size ≤ wq.heap.size) (fun _ ss _ => q.length - (intOf ss).toNat)
                case atStart =>
                  exact ⟨0, _, none, 0, 0, Nat.zero_le _, rfl, rfl, rfl, Lib.hid ⟨H0.out.1, by simpa using HC.out.2.1, all_set HC.out.2.2.1 _ rfl, (H0.out.2.2.1 _ (by omega)).trans HC.out.2.2.2.1, by rw [Array.getElem?_setIfInBounds, if_pos rfl, if_pos (by have := HC.out.2.1; omega)], (Array.getElem?_setIfInBounds_ne (by omega)).trans H0.out.2.1, World.ownsRow_nil _ _ _ _, H0.out.2.2.2.1⟩, hbw0, by rw [H0.out.2.2.2.2]; exact Nat.le_refl _⟩
                case round =>
                  clear H0 hbw0 HC hbw
                  obtain ⟨s, cq, ak, k, ck, hs, rfl, hk, rfl, HC, hbq, hszq⟩ := hrel
                  by_cases hls : s < q.length
                  · obtain ⟨b, off, rfl, hbl, hc, _⟩ := (hb.below hbq).at_ hls
                    rw [(HQ.out s).1] at hc
                    have hkle : k ≤ s := by rw [hk]; exact pidxTo_le _ _ _
                    have hsucc := pidxTo_succ ns n s
                    obtain ⟨t, ht⟩ : ∃ t, ns.getD s 0 = t := ⟨_, rfl⟩
                    rw [ht] at hc hsucc
                    have HK := Lib.hid hk
                    have HS := Lib.hid hsucc
                    clear hk ht hsucc
                    have j1 : (s : Int) < q.length := by omega
                    by_cases htn : t = n
                    · have hd : ((t : Int) == n) = true := by simp [htn]
                      rw [if_pos htn] at HS
                      have hO := HC.out.2.2.2.2.2.2.1
                      have hcS : wr.cell? ⟨w.heap.size + 1, 16 + n, none⟩ = some (.slice ak k ck) := by rw [blk_cell HC.out.1]; exact HC.out.2.2.2.2.2.1
                      clear htn
                      go_wp2_with (at_builtin; refine wpList_appG 57 3 (.int .i64 0) 8 Tryd.underlying57 int_info rfl rfl _ _ rfl wo.heap.size (.slice ak k ck) k _ rfl (hO.alloc _) (some ⟨wr.heap.size, 0, none⟩) 1 1 [.int .i64 s] rfl rfl (src_one _ _ _) ?h1 ?h2 ?h3 ?h4 ?h5 ?_)
                      case h1 => intro u hu; simp at hu; subst hu; rfl
                      case h2 => intro h; cases h
                      case h3 => simp only [maxLen]; omega
                      case h4 => omega
                      case h5 => simp; omega
                      intro v' w3 hown1 hg1 _
                      obtain ⟨a4, c4, rfl⟩ := own_shape hown1
                      have hb3 : Below wo.heap.size wr w3 := grown_below (Below.refl _ wr) hszq hO hg1
                      have g6 := (hb3.block (w.heap.size + 1) (by omega)).trans HC.out.1
                      have g4 := (hb3.block w.heap.size (by omega)).trans HC.out.2.2.2.1
                      have hcv : w3.cell? ⟨w.heap.size + 1, 16 + n, none⟩ = some (.slice ak k ck) := by rw [blk_cell g6]; exact HC.out.2.2.2.2.2.1
                      have hfv := blk_free g6 (16 + n)
                      have hset := blk_set g6 (16 + n) (.slice a4 (k + 1) c4)
                      have hoth : ∀ i, i ≠ w.heap.size + 1 → (w3.setCell ⟨w.heap.size + 1, 16 + n, none⟩ (.slice a4 (k + 1) c4)).heap[i]? = w3.heap[i]? := fun i hi => Below.heap_setCell _ ⟨w.heap.size + 1, 16 + n, none⟩ _ i hi
                      have hsz3 : (w3.setCell ⟨w.heap.size + 1, 16 + n, none⟩ (.slice a4 (k + 1) c4)).heap.size = w3.heap.size := by simp [World.setCell]
                      have hown2 := own_other hown1 (own_ne hown1 (by omega : w.heap.size + 1 < wo.heap.size)) (16 + n) (.slice a4 (k + 1) c4)
                      have H1 := Lib.hid (And.intro hset (And.intro hoth (And.intro hsz3 (And.intro hown2 (And.intro g4 hb3)))))
                      clear hset hoth hsz3 hown1 hown2 hg1 g6 g4 hb3 hO hcS
                      go_wp2_with fail
                      have hb3 := H1.out.2.2.2.2.2
                      have h3s := hb3.size
                      exact ⟨⟨s + 1, cq.setIfInBounds (16 + n) (.slice a4 (k + 1) c4), a4, k + 1, c4, by omega, by go_num, by rw [HS.out, List.length_append, ← HK.out]; rfl, by congr 1, Lib.hid ⟨H1.out.1, by simpa using HC.out.2.1, all_set HC.out.2.2.1 _ rfl, (H1.out.2.1 _ (by omega)).trans H1.out.2.2.2.2.1, (Array.getElem?_setIfInBounds_ne (by omega)).trans HC.out.2.2.2.2.1,
                        by rw [Array.getElem?_setIfInBounds, if_pos rfl, if_pos (by have := HC.out.2.1; omega)], by rw [HS.out, List.map_append]; exact H1.out.2.2.2.1,
                        fun m g0 g1 g2 => (HC.out.2.2.2.2.2.2.2 m g0 g1 g2).keep (fun b hb => (H1.out.2.1 b (by omega)).trans (hb3.block b hb.2)) (fun b hb => hb) (Array.getElem?_setIfInBounds_ne (by omega)) (Array.getElem?_setIfInBounds_ne (by omega))⟩,
                        (hbq.trans (hb3.mono (by omega))).setCell (Nat.le_succ _) _, by rw [H1.out.2.2.1]; omega⟩, by simp [intOf]; omega⟩
                    · have hd : ((t : Int) == n) = false := by simp; omega
                      rw [if_neg htn] at HS
                      go_wp2_with fail
                      exact ⟨⟨s + 1, cq, ak, k, ck, by omega, by go_num, by rw [HS.out, List.append_nil, ← HK.out], rfl, Lib.hid (by rw [HS.out, List.append_nil]; exact HC.out), hbq, hszq⟩, by simp [intOf]; omega⟩
                  · obtain rfl : s = q.length := by omega
                    go_wp2_with fail
                    have hkc : k = pcnt ns n := by rw [hk, ← hnl, ← pidx_len]; rfl
                    refine ⟨⟨n + 1, cq, by omega, by omega, by go_num, by rw [Nat.add_sub_cancel, pnext, if_neg (by omega), HFE.out, hkc], Lib.hid ⟨HC.out.1, HC.out.2.1, HC.out.2.2.1, HC.out.2.2.2.1, fun m g0 g1 => ?_⟩, hbq, by omega⟩, by simp [intOf]; omega⟩
                    by_cases hmn : m = n
                    · subst hmn
                      unfold StC
                      rw [if_pos (by omega)]
                      refine ⟨by rw [HFE.out]; exact HC.out.2.2.2.2.1, ak, ck, by rw [← hkc]; exact HC.out.2.2.2.2.2.1, ?_⟩
                      have hr := row_of_own HC.out.2.2.2.2.2.2.1 hk.symm
                      rw [← hnl] at hr
                      exact Row.more hr fun b hb => ⟨by omega, hb.2⟩
                    · exact ((HC.out.2.2.2.2.2.2.2 m g0 g1 hmn).next hmn).keep (fun b hb => rfl) (fun b hb => ⟨hb.1, by omega⟩) rfl rfl
              · obtain rfl : n = 16 := by omega
                have h6 := HC.out.1
                have h32 := HC.out.2.1
                have h1c := HC.out.2.2.1
                have h4 := HC.out.2.2.2.1
                go_wp2_with (first | refine code_ld rfl rfl (w.heap.size + 1) rfl h32 h6 ?_ | refine code_st rfl rfl w.heap.size rfl rfl h32 hzs h1c h4 ?_)
                (try simp only [Exit.inBlock, Exit.then])
                refine bodyPost_ret (code_ret rfl rfl h32 (setRow_heap _ _ _ _ _ _ h4)) rfl ?_
                refine ⟨low_setRow hbw (Nat.le_refl _) _, cs, h32, h1c, by rw [HE.out]; rfl, fun _ => ⟨h32, fun m g0 g1 => ?_⟩⟩
                have hst := HC.out.2.2.2.2 m g0 g1
                unfold StC at hst
                rw [if_pos (by omega)] at hst
                rw [HNS.out]
                obtain ⟨f1, a1, c1, f2, f3⟩ := hst
                exact ⟨f1, a1, c1, f2, (f3.keep fun b hb => setRow_other _ _ _ _ (by omega)).more fun b hb => ⟨by omega, by rw [size_setRow]; exact hb.2⟩⟩
theorem kraft_all : ∀ ns : List Nat, kraft ns ≤ 16384 * allN ns
  | [] => by simp [kraft]
  | x :: ns => by
    have ih := kraft_all ns
    have e : kraft (x :: ns) = (if x = 0 then 0 else 2 ^ (15 - x)) + kraft ns := by simp [kraft]
    by_cases h : x = 0
    · have e2 : allN (x :: ns) = allN ns := by simp [allN, h]
      rw [e, e2, if_pos h]; omega
    · have e2 : allN (x :: ns) = allN ns + 1 := by simp [allN, h]
      have h2 : 2 ^ (15 - x) ≤ 16384 := Nat.pow_le_pow_right (n := 2) (j := 14) (by decide) (by omega)
      rw [e, e2, if_neg h]; omega
/-- lengths that are a code take up no more than there is -/
theorem okN_kraft {ns : List Nat} {lone : Bool} (h : okN ns lone = true) : kraft ns ≤ 2 ^ 15 := by
  have hk := kraft_all ns
  have e : 2 ^ 15 = 32768 := by decide
  rw [e]
  simp only [okN, Bool.or_eq_true, Bool.and_eq_true, decide_eq_true_eq] at h
  rcases h with h | ⟨_, h | ⟨h, _⟩⟩
  · omega
  · rw [h] at hk; omega
  · rw [h] at hk; omega
theorem inR_le {q : List Int} (h : inR q = true) : ∀ n ∈ nsOf q, n ≤ 15 := fun n hn => by
  obtain ⟨x, hx, rfl⟩ := List.mem_map.1 hn
  rw [inR, List.all_eq_true] at h
  have := h x hx
  simp at this; omega
end Go.Proofs.YtpnnfekfoomgaaaDoor
