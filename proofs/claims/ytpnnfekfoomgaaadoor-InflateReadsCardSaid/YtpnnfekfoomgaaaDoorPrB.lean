/- What package prefix lays for lengths that are a code: contract of laid. Condition: up to 288 lengths of up to 15 bits that take up no more than there is. -/
import Derived.Test.YtpnnfekfoomgaaaDoorPrA
import Derived.Test.YtpnnfekfoomgaaaDoorReg
import Derived.Test.YtpnnfekfoomgaaaDoorMapE
set_option linter.unusedVariables false
set_option maxRecDepth 100000
namespace Go.Proofs.YtpnnfekfoomgaaaDoor
open Go.RowKit Go.Maps Go.ChangeMaps

/-- m numbers -/
def arrN (m : Nat) (f : Nat → Int) : Array Value := ((List.range m).map fun i => Value.int .i64 (f i)).toArray
theorem arrN_size (m : Nat) (f : Nat → Int) : (arrN m f).size = m := by simp [arrN]
theorem arrN_get (m : Nat) (f : Nat → Int) {i : Nat} (h : i < m) : (arrN m f)[i]? = some (.int .i64 (f i)) := by
  unfold arrN
  rw [List.getElem?_toArray, List.getElem?_map, List.getElem?_range h]; rfl
theorem arrN_ext {m : Nat} {cs : Array Value} {f : Nat → Int} (hs : cs.size = m) (h : ∀ i, i < m → cs[i]? = some (.int .i64 (f i))) : cs = arrN m f := by
  apply Array.ext_getElem?
  intro i
  by_cases hi : i < m
  · rw [h i hi, arrN_get m f hi]
  · rw [Array.getElem?_eq_none (by omega), Array.getElem?_eq_none (by rw [arrN_size]; omega)]
theorem arrN_set (m : Nat) (f : Nat → Int) (i : Nat) (v : Int) : (arrN m f).setIfInBounds i (.int .i64 v) = arrN m fun j => if j = i then v else f j := by
  apply arrN_ext
  · simp [arrN_size]
  · intro j hj
    rw [Array.getElem?_setIfInBounds]
    by_cases h : i = j
    · subst h; simp [arrN_size, hj]
    · rw [if_neg h, arrN_get m f hj, if_neg (fun e => h e.symm)]
theorem arrN_congr {m : Nat} {f g : Nat → Int} (h : ∀ i, i < m → f i = g i) : arrN m f = arrN m g := arrN_ext (arrN_size m f) fun i hi => by rw [arrN_get m f hi, h i hi]

/-- what the cells of a row of words hold: of each symbol how many bits, and which -/
def pwv (ns : List Nat) (j : Nat) : Int := if j % 2 = 0 then ((ns.getD (j / 2) 0 : Nat) : Int) else if ns.getD (j / 2) 0 = 0 then 0 else (pword ns (j / 2) : Int)
def codeCells (bw bm n : Nat) (L : Int) : Array Value := #[.slice (some ⟨bw, 0, none⟩) n n, .map (some bm), .int .i64 L]
/-- block g is the program's code of the lengths ns; its blocks lie in F -/
def PC (w : World) (F : Nat → Prop) (g : Nat) (ns : List Nat) : Prop :=
  ∃ bw bm k, ∃ D : DataW Unit, F g ∧ F bw ∧ F bm ∧ w.heap[g]? = some (.cells (codeCells bw bm ns.length (plong ns 15)) 120 (0, 0)) ∧ w.heap[bw]? = some (.cells (arrN (2 * ns.length) (pwv ns)) 122 (0, 0)) ∧
    w.ownsMap Tryd.prog 122 (plainElem Tryd.prog 3) bm k D ∧ MapIs D (plookTo ns ns.length)
theorem ownsMap_blk {w w' : World} {P : Program} {k : TypeId} {R : Value → Option (DataW Unit × List MemPlace)} {b n : Nat} {D : DataW Unit} (h : w.ownsMap P k R b n D) (hb : w'.heap[b]? = w.heap[b]?) : w'.ownsMap P k R b n D := by
  obtain ⟨es, cl, h1, h2⟩ := h
  exact ⟨es, cl, hb.trans h1, h2⟩
theorem PC.keep {w w' : World} {F : Nat → Prop} {g : Nat} {ns : List Nat} (h : PC w F g ns) (hs : ∀ b, F b → w'.heap[b]? = w.heap[b]?) : PC w' F g ns := by
  obtain ⟨bw, bm, k, D, f1, f2, f3, h1, h2, h3, h4⟩ := h
  exact ⟨bw, bm, k, D, f1, f2, f3, (hs _ f1).trans h1, (hs _ f2).trans h2, ownsMap_blk h3 (hs _ f3), h4⟩
theorem PC.more {w : World} {F F' : Nat → Prop} {g : Nat} {ns : List Nat} (h : PC w F g ns) (hs : ∀ b, F b → F' b) : PC w F' g ns := by
  obtain ⟨bw, bm, k, D, f1, f2, f3, h1⟩ := h
  exact ⟨bw, bm, k, D, hs _ f1, hs _ f2, hs _ f3, h1⟩

theorem word_info : (Tryd.prog.info? 122).map (fun i => (i.zero, i.size, i.bytes)) = some (some (.agg #[.int .i64 0, .int .i64 0]), 2, 16) := by kernel_rfl
theorem made_two (n : Nat) : madeCells #[.int .i64 0, .int .i64 0] (n * 2) = arrN (2 * n) fun _ => 0 := by
  apply arrN_ext
  · rw [size_madeCells, Nat.mul_comm]
  · intro i hi
    simp only [madeCells]
    rw [Array.getElem?_map, Array.getElem?_range, if_pos (by omega)]
    have h2 : i % 2 = 0 ∨ i % 2 = 1 := by omega
    rcases h2 with h2 | h2 <;> simp [h2]
theorem run_make_words (n : Nat) (hn : n ≤ 288) (W : World) : (Instr.makeSlice 117 (.int .i64 n) (.int .i64 n)).run Tryd.prog W = .ok (.slice (some ⟨W.heap.size, 0, none⟩) n n) (W.alloc (.cells (arrN (2 * n) fun _ => 0) 122)) := by
  obtain ⟨i0, hi, hz0, hz1, hz2⟩ := info_parts word_info
  have := run_make (P := Tryd.prog) W 117 122 i0 _ Tryd.underlying117 hi hz0 .i64 .i64 n n (by omega) (by omega) (by rw [hz2]; omega) (by omega)
  simp only [Int.toNat_natCast, hz1, Value.cells] at this
  rw [made_two] at this
  exact this
theorem zeroW (W : World) : (zeroValue 122).run Tryd.prog W = .ok (.agg #[.int .i64 0, .int .i64 0]) W := by kernel_rfl
theorem zeroI (W : World) : (zeroValue 3).run Tryd.prog W = .ok (.int .i64 0) W := by kernel_rfl
theorem zeroCo (W : World) : (zeroValue 120).run Tryd.prog W = .ok (.agg #[.slice none 0 0, .map none, .int .i64 0]) W := by kernel_rfl

theorem four_new (w : World) (o1 o2 o3 o4 : Obj) : ∃ w', w' = (((w.alloc o1).alloc o2).alloc o3).alloc o4 ∧ w'.heap.size = w.heap.size + 4 ∧ w'.heap[w.heap.size]? = some o1 ∧ w'.heap[w.heap.size + 1]? = some o2 ∧ w'.heap[w.heap.size + 2]? = some o3 ∧ w'.heap[w.heap.size + 3]? = some o4 ∧ Below w.heap.size w w' := by
  refine ⟨_, rfl, by simp, ?_, ?_, ?_, ?_, ?_⟩
  · exact (Below.heap_alloc _ _ _ (by simp <;> omega)).trans ((Below.heap_alloc _ _ _ (by simp <;> omega)).trans ((Below.heap_alloc _ _ _ (by simp)).trans (heap_alloc_new w o1)))
  · exact (Below.heap_alloc _ _ _ (by simp <;> omega)).trans ((Below.heap_alloc _ _ _ (by simp)).trans (by simpa using heap_alloc_new (w.alloc o1) o2))
  · exact (Below.heap_alloc _ _ _ (by simp)).trans (by simpa using heap_alloc_new ((w.alloc o1).alloc o2) o3)
  · simpa using heap_alloc_new (((w.alloc o1).alloc o2).alloc o3) o4
  · exact ((((Below.refl _ _).alloc (Nat.le_refl _) _).alloc (by simp) _).alloc (by simp; omega) _).alloc (by simp; omega) _
/-- the next word of each length, behind s symbols -/
def nextF (ns : List Nat) (s i : Nat) : Int := (pfirst ns i : Int) + if i = 0 then 0 else (((ns.take s).count i : Nat) : Int)
theorem nextF_zero (ns : List Nat) : (arr fun i => (pfirst ns i : Int)) = arr (nextF ns 0) := arr_congr fun i _ => by unfold nextF; split <;> simp
theorem nextF_succ (ns : List Nat) {s : Nat} (hs : s < ns.length) (h0 : ns.getD s 0 ≠ 0) : (arr fun j => if j = ns.getD s 0 then nextF ns s (ns.getD s 0) + 1 else nextF ns s j) = arr (nextF ns (s + 1)) := arr_congr fun i _ => by
  unfold nextF
  have h := take_count_succ ns s i hs
  by_cases e : i = ns.getD s 0
  · subst e; rw [if_pos rfl, if_neg h0, if_neg h0, h, if_pos rfl]; omega
  · rw [if_neg e, h, if_neg (show ¬ ns.getD s 0 = i from fun q => e q.symm), Nat.add_zero]
theorem nextF_skip (ns : List Nat) {s : Nat} (hs : s < ns.length) (h0 : ns.getD s 0 = 0) : arr (nextF ns s) = arr (nextF ns (s + 1)) := arr_congr fun i _ => by
  unfold nextF
  have h := take_count_succ ns s i hs
  by_cases e : i = 0
  · rw [if_pos e, if_pos e]
  · rw [h, if_neg (show ¬ ns.getD s 0 = i by omega)]; simp
theorem nextF_word (ns : List Nat) {s : Nat} (h0 : ns.getD s 0 ≠ 0) : nextF ns s (ns.getD s 0) = (pword ns s : Int) := by
  unfold nextF pword prank
  rw [if_neg h0]; omega
/-- the words of the first s symbols -/
def pwvTo (ns : List Nat) (s j : Nat) : Int := if j < 2 * s then pwv ns j else 0
theorem pwvTo_skip (ns : List Nat) {s : Nat} (h0 : ns.getD s 0 = 0) (m : Nat) : arrN m (pwvTo ns s) = arrN m (pwvTo ns (s + 1)) := arrN_congr fun j _ => by
  unfold pwvTo
  by_cases h : j < 2 * s
  · rw [if_pos h, if_pos (by omega)]
  · rw [if_neg h]
    by_cases h2 : j < 2 * (s + 1)
    · rw [if_pos h2]
      have : j / 2 = s := by omega
      unfold pwv
      rw [this, h0]; simp
    · rw [if_neg h2]
theorem pwvTo_succ (ns : List Nat) {s : Nat} (h0 : ns.getD s 0 ≠ 0) (m : Nat) : arrN m (fun j => if j = 2 * s + 1 then (pword ns s : Int) else if j = 2 * s then ((ns.getD s 0 : Nat) : Int) else pwvTo ns s j) = arrN m (pwvTo ns (s + 1)) := arrN_congr fun j _ => by
  unfold pwvTo
  by_cases h : j < 2 * s
  · rw [if_neg (by omega), if_neg (by omega), if_pos h, if_pos (by omega)]
  · rw [if_neg h]
    by_cases h1 : j = 2 * s + 1
    · rw [if_pos h1, if_pos (by omega)]
      have : j / 2 = s := by omega
      unfold pwv
      rw [this, if_neg (by omega), if_neg h0]
    · rw [if_neg h1]
      by_cases h2 : j = 2 * s
      · rw [if_pos h2, if_pos (by omega)]
        have : j / 2 = s := by omega
        unfold pwv
        rw [this, if_pos (by omega)]
      · rw [if_neg h2, if_neg (by omega)]
/-- what is laid of a code behind s symbols -/
def LaidTo (w wr : World) (bw bm g bn : Nat) (ns : List Nat) (s L : Nat) : Prop :=
  wr.heap[bw]? = some (.cells (arrN (2 * ns.length) (pwvTo ns s)) 122 (0, 0)) ∧ wr.heap[g]? = some (.cells (codeCells bw bm ns.length L) 120 (0, 0)) ∧ (∃ D : DataW Unit, wr.ownsMap Tryd.prog 122 (plainElem Tryd.prog 3) bm s D ∧ MapIs D (plookTo ns s)) ∧
    LongTo ns s L ∧ L ≤ 15 ∧ wr.heap[bn]? = some (.cells (arr (nextF ns s)) 62 (0, 0)) ∧ Below w.heap.size w wr
/-- where the statement that lays a word has come to -/
structure RegC (w8 : World) (bw bm : Nat) (old new : Array Value) (e0 e1 e2 : Obj) (listed : Array Bool) (W : World) : Prop where
  os : W.os = w8.os
  tape : W.tape = w8.tape
  output : W.output = w8.output
  size : W.heap.size = w8.heap.size
  rest : ∀ k, k ≠ bw → k ≠ bm → W.heap[k]? = w8.heap[k]?
  words : W.heap[bw]? = some (.cells (if listed[13]? = some true then new else old) 122 (0, 0))
  map : W.heap[bm]? = some (if listed[16]? = some true then e2 else if listed[14]? = some true then e1 else e0)
  order : listed[16]? = some true → listed[14]? = some true
theorem lst_ne {listed : Array Bool} {i j : Nat} (h : i ≠ j) : (listed.setIfInBounds i true)[j]? = listed[j]? := Array.getElem?_setIfInBounds_ne h
theorem lst_eq {listed : Array Bool} {i : Nat} (h : listed[i]? = some false) : (listed.setIfInBounds i true)[i]? = some true := by
  have := (Array.getElem?_eq_some_iff.1 h).1
  simp [this]
theorem RegC.skip {w8 : World} {bw bm : Nat} {old new : Array Value} {e0 e1 e2 : Obj} {listed : Array Bool} {W : World} (h : RegC w8 bw bm old new e0 e1 e2 listed W) (i : Nat) (h1 : i ≠ 13) (h2 : i ≠ 14) (h3 : i ≠ 16) : RegC w8 bw bm old new e0 e1 e2 (listed.setIfInBounds i true) W :=
  ⟨h.os, h.tape, h.output, h.size, h.rest, by rw [lst_ne h1]; exact h.words, by rw [lst_ne h2, lst_ne h3]; exact h.map, by rw [lst_ne h2, lst_ne h3]; exact h.order⟩
def GV (vs : List Value) (i : Nat) (v : Value) : Prop := v = vs.getD i undef
theorem y_fa0 (g : Nat) (W : World) : (Instr.fieldAt 120 (.pointer (some ⟨g, 0, none⟩)) 0).run Tryd.prog W = .ok (.pointer (some ⟨g, 0, none⟩)) W := by kernel_rfl
theorem y_fa1 (g : Nat) (W : World) : (Instr.fieldAt 120 (.pointer (some ⟨g, 0, none⟩)) 1).run Tryd.prog W = .ok (.pointer (some ⟨g, 1, none⟩)) W := by kernel_rfl
theorem y_ia (bw n s : Nat) (W : World) (h : s < n) : (Instr.indexAt 117 (.slice (some ⟨bw, 0, none⟩) n n) (.int .i64 s)).run Tryd.prog W = .ok (.pointer (some ⟨bw, 2 * s, none⟩)) W := by
  have hs : (sizeOf (Tryd.prog.elem 117)).run Tryd.prog W = .ok 2 W := by kernel_rfl
  rw [run_indexAt_slice W _ _ _ _ _ _ (by kernel_rfl), if_pos (by omega), hs]
  have e : (⟨bw, 0, none⟩ : Addr).add ((s : Int).toNat * 2) = ⟨bw, 2 * s, none⟩ := by
    rw [add_off']; congr 1; omega
  simp only [Result.andThen_ok, e]
theorem two_cells (W : World) (b o : Nat) (x y : Value) : W.setCells b o [x, y] = (W.setCell ⟨b, o, none⟩ x).setCell ⟨b, o + 1, none⟩ y := by
  simp [World.setCells]
theorem y_ldw (g : Nat) (N v : Nat) (W : World) (h : W.heap[g]? = some (.cells #[.int .i64 N, .int .i64 v] 122 (0, 0))) : (Instr.loadAt 122 (.pointer (some ⟨g, 0, none⟩))).run Tryd.prog W = .ok (wkey N v) W :=
  run_loadAt_mid W g 0 122 [.int .i64 N, .int .i64 v] _ (fun j u hu => by rw [Nat.zero_add, blk_cell h]; simpa using hu) Tryd.underlying122 rfl (by kernel_rfl)
theorem y_ld3 (g k : Nat) (t : TypeId) (v : Value) (W : World) (ht : (isAgg t).run Tryd.prog W = .ok false W) (h : W.cell? ⟨g, k, none⟩ = some v) : (Instr.loadAt t (.pointer (some ⟨g, k, none⟩))).run Tryd.prog W = .ok v W := by
  simp [Instr.loadAt, Instr.sureAddr, loadVar, ht, Result.andThen, h, go_sem]
set_option maxHeartbeats 2000000 in
theorem laid_is {w : World} (a : Option Addr) (n c : Nat) (q : List Int) (hn : q.length = n) (h288 : n ≤ 288) (hb : Ints .i64 w w.heap.size a q) (hin : inR q = true) (hk : kraft (nsOf q) ≤ 2 ^ 15) :
    Calls Tryd.prog 67 #[.slice a n c, .agg (arr (cntF (nsOf q)))] w fun e w' => ∃ g, e = .returned (.pointer (some ⟨g, 0, none⟩)) ∧ PC w' (fun b => w.heap.size ≤ b ∧ b < w'.heap.size) g (nsOf q) ∧ Below w.heap.size w w' := by
  subst hn
  have hmk := run_make_words q.length h288
  have hmm := @run_makeMap Tryd.prog
  have hz := zeroA
  have hz2 := zeroCo
  go_enter Tryd.func67, Tryd.ntmps67
  go_upto_region 2 with (fail)
  obtain ⟨w4, he4, hs4, h0, h1, h2, h3, hb4⟩ := four_new w (.cells (arr (cntF (nsOf q))) 62) (.cells (arrN (2 * q.length) fun _ => 0) 122) (.map #[] 0) (.cells (codeCells (w.heap.size + 1) (w.heap.size + 2) q.length 0) 120)
  have hnl : (nsOf q).length = q.length := by simp [nsOf]
  have hown : w4.ownsMap Tryd.prog 122 (plainElem (H := Unit) Tryd.prog 3) (w.heap.size + 2) 0 (.map []) := ⟨#[], 0, h2, ⟨by simp, Go.MapKept.stamped_empty 0, by simp⟩, Nat.le_refl _, rfl⟩
  unfold codeCells at he4
  simp only [show w.heap.size + 2 = w.heap.size + 1 + 1 from rfl] at he4
  rw [← he4]
  clear he4
  go_wp2_with (refine arr_ld rfl rfl w.heap.size rfl h0 ?_)
  refine (firsts_is (by omega)).mono ?_
  rintro e w5 ⟨rfl, hb5⟩
  have hs5 := hb5.size
  have ho4 := hown
  have c1 := (hb5.block _ (by omega)).trans h1
  have c3 := (hb5.block _ (by omega)).trans h3
  have ho5 := ownsMap_blk hown (hb5.block _ (by omega))
  have hw5 : Below w.heap.size w w5 := hb4.trans (hb5.mono (by omega))
  have H5 := Lib.hid (And.intro c1 (And.intro c3 (And.intro ho5 hw5)))
  clear h0 h1 h2 h3 hb4 hown c1 c3 ho5 hw5 hb5 ho4 hmk hmm hz2
  simp only [show w.heap.size + 2 = w.heap.size + 1 + 1 from rfl, show w.heap.size + 3 = w.heap.size + 1 + 1 + 1 from rfl] at H5
  have HBS := Lib.hid (show w.heap.size < w.heap.size + 1 from Nat.lt_succ_self _)
  generalize hbw : w.heap.size + 1 = bw at *
  generalize hbm : bw + 1 = bm at *
  generalize hgg : bm + 1 = g at *
  have HINT := Lib.hid hb
  clear hb
  go_wp2_with (refine arr_st rfl rfl w5.heap.size rfl rfl (heap_alloc_new _ _) ?_)
  have hset := setRow_heap (w5.alloc (.cells (arr fun _ => 0) 62)) w5.heap.size _ (arr fun i => (pfirst (nsOf q) i : Int)) _ _ (heap_alloc_new w5 (.cells (arr fun _ => 0) 62))
  have hoth := fun k (hk : k < w5.heap.size) => (setRow_other (w5.alloc (.cells (arr fun _ => 0) 62)) w5.heap.size k (arr fun i => (pfirst (nsOf q) i : Int)) (by omega)).trans (Below.heap_alloc w5 _ k hk)
  have hl6 : Below w.heap.size w ((w5.alloc (.cells (arr fun _ => 0) 62)).setRow w5.heap.size (arr fun i => (pfirst (nsOf q) i : Int))) := low_setRow (H5.out.2.2.2.alloc (by omega) _) (by omega) _
  have hsz6 : ((w5.alloc (.cells (arr fun _ => 0) 62)).setRow w5.heap.size (arr fun i => (pfirst (nsOf q) i : Int))).heap.size = w5.heap.size + 1 := by rw [size_setRow]; simp
  rw [nextF_zero] at hset hoth hl6 hsz6 ⊢
  generalize hw6 : ((w5.alloc (.cells (arr fun _ => 0) 62)).setRow w5.heap.size (arr (nextF (nsOf q) 0))) = w6 at *
  have h6 : LaidTo w w6 bw bm g w5.heap.size (nsOf q) 0 0 := ⟨(hoth _ (by omega)).trans (by rw [H5.out.1, hnl]; rfl), (hoth _ (by omega)).trans (by rw [H5.out.2.1, hnl]; rfl), ⟨.map [], ownsMap_blk H5.out.2.2.1 (hoth _ (by omega)), MapIs.congr mapIs_empty (by funext n v; rw [plookTo_zero])⟩, longTo_zero _, by omega, hset, hl6⟩
  have H6 := Lib.hid h6
  obtain ⟨bn, hbn⟩ : ∃ bn, bn = w5.heap.size := ⟨_, rfl⟩
  rw [← hbn] at H6 hs5 hsz6 ⊢
  clear hset hoth hl6 hw6 H5 hz h6
  have hgbn : g < bn := by omega
  have hwbw : w.heap.size < bw := by omega
  clear hbn hbw hs5 hs4
  go_loopw [20] (fun i wr => ∃ s L : Nat, s ≤ q.length ∧ i = .int .i64 s ∧ Hid (LaidTo w wr bw bm g bn (nsOf q) s L) ∧ bn < wr.heap.size) (fun i _ => q.length - (intOf i).toNat)
  case atStart => exact ⟨0, 0, Nat.zero_le _, rfl, H6, by omega⟩
  case round =>
    clear H6
    obtain ⟨s, L, hs, rfl, H, hbs⟩ := hrel
    by_cases hlt : s < q.length
    · obtain ⟨b, off, rfl, hbl, hc, hwf⟩ := (HINT.out.below H.out.2.2.2.2.2.2).at_ hlt
      obtain ⟨hq1, hq2⟩ := nsOf_get hin s
      obtain ⟨N, hN⟩ : ∃ N, (nsOf q).getD s 0 = N := ⟨_, rfl⟩
      rw [hN] at hq1 hq2
      rw [hq1] at hc
      clear hq1 hwf
      by_cases h0 : N = 0
      · subst h0
        have hn1 := pwvTo_skip (nsOf q) hN (2 * (nsOf q).length)
        have hn2 := plookTo_skip (nsOf q) (by omega) hN
        have hn3 := nextF_skip (nsOf q) (by omega) hN
        have HN := Lib.hid (And.intro hn1 (And.intro hn2 (And.intro hn3 hN)))
        clear hn1 hn2 hn3 hN
        go_wp2_with fail
        obtain ⟨g1, g2, ⟨D, g3, g4⟩, g5, g6, g7, g8⟩ := H.out
        obtain ⟨e1, e2, e3, e4⟩ := HN.out
        exact ⟨⟨s + 1, L, by omega, by go_num, Lib.hid ⟨by rw [← e1]; exact g1, g2, ⟨D, g3.mono (Nat.le_succ _), g4.congr e2.symm⟩, g5.skip e4, g6, by rw [← e3]; exact g7, g8⟩, hbs⟩, by simp [intOf]; omega⟩
      · have hnext := nextF_word (nsOf q) (s := s) (by omega)
        rw [hN] at hnext
        have hcn : wr.cell? ⟨bn, N, none⟩ = some (.int .i64 (pword (nsOf q) s)) := by rw [blk_cell H.out.2.2.2.2.2.1, arr_get _ (by omega), hnext]
        have hfn := blk_free H.out.2.2.2.2.2.1 N
        have hwl := pword_bound (inR_le hin) hk (s := s) (by omega) (by omega)
        rw [hN] at hwl
        have h15 := Nat.pow_le_pow_right (n := 2) (by decide) hq2
        rw [(by decide : 2 ^ 15 = 32768)] at h15
        have i0 : (0 : Int) ≤ (N : Int) := by omega
        have i1 : (N : Int) < 16 := by omega
        have i2 : ((N : Int) == 0) = false := by simp; omega
        have HNN := Lib.hid (And.intro hN hnext)
        obtain ⟨v, hv⟩ : ∃ v, pword (nsOf q) s = v := ⟨_, rfl⟩
        rw [hv] at hcn hwl
        have HV := Lib.hid hv
        have hv15 : v < 32768 := by omega
        clear hv hN hnext hwl h15
        have hz2 := zeroW
        go_upto_region 9 with (fail)
        rename_i hK
        obtain ⟨g1, g2, ⟨D, g3, g4⟩, g5, g6, g7, g8⟩ := H.out
        have hmt : bm ≠ bw ∧ bm ≠ g ∧ bm ≠ bn ∧ bw ≠ g ∧ bw ≠ bn ∧ g ≠ bn ∧ bm < bn ∧ bw < bn := by omega
        obtain ⟨w8, hw8⟩ : ∃ w8, w8 = ((wr.setCell ⟨bn, N, none⟩ (.int .i64 ((v : Int) + 1))).alloc (.cells #[.int .i64 N, .int .i64 v] 122)) := ⟨_, rfl⟩
        have hsz8 : w8.heap.size = wr.heap.size + 1 := by rw [hw8]; simp
        have hlow : ∀ k, k ≠ bn → k < wr.heap.size → w8.heap[k]? = wr.heap[k]? := fun k h1 h2 => by
          rw [hw8, Below.heap_alloc _ _ _ (by simpa using h2)]; exact Below.heap_setCell _ ⟨bn, N, none⟩ _ _ h1
        have hn8 : w8.heap[bn]? = some (.cells (arr (nextF (nsOf q) (s + 1))) 62 (0, 0)) := by
          rw [hw8, Below.heap_alloc _ _ _ (by simpa using hbs), blk_set g7 N, arr_set]
          have := nextF_succ (nsOf q) (s := s) (by omega) (by rw [HNN.out.1]; exact h0)
          rw [HNN.out.1, HNN.out.2, HV.out] at this
          rw [this]
        have ht8 : w8.heap[wr.heap.size]? = some (.cells #[.int .i64 N, .int .i64 v] 122 (0, 0)) := by
          rw [hw8]; simpa using heap_alloc_new (wr.setCell ⟨bn, N, none⟩ (.int .i64 ((v : Int) + 1))) (.cells #[.int .i64 N, .int .i64 v] 122)
        have hl8 : Below w.heap.size w w8 := by rw [hw8]; exact (g8.setCell (p := ⟨bn, N, none⟩) (by show w.heap.size ≤ bn; omega) _).alloc (by have := g8.size; simp; omega) _
        rw [← hw8]
        clear hw8
        have e1 := hlow bw hmt.2.2.2.2.1 (by omega)
        have e2 := hlow bm hmt.2.2.1 (by omega)
        have e3 := hlow g hmt.2.2.2.2.2.1 (by omega)
        have hfresh : Maps.has D (kl N v) = false := by
          have h1 := (g4 N v (by omega) (by omega)).1
          rw [h1]
          cases hp : plookTo (nsOf q) s N v with
          | none => rfl
          | some t =>
            exfalso
            obtain ⟨p1, p2, p3, p4, p5⟩ := (plookTo_iff _ _ _ _ _).1 hp
            have := pword_ne p3 (show s < (nsOf q).length by omega) (p4.trans HNN.out.1.symm) (p5.trans HV.out.symm)
            omega
        obtain ⟨es, clock, hm0, hE, hS, hO⟩ := owns_new (val := .int .i64 (s : Int)) (d := .lit (.int .i64 (s : Int))) (ps := []) word_keys Tryd.underlying118 zeroI (ownsMap_blk g3 e2) (by unfold maxLen; omega) (wkey_is (n := N) (v := v) (by omega) (by omega)) hfresh (plainElem_int Tryd.underlying3 (wf_nat (by omega)))
        refine wp_region_listed (C := RegC w8 bw bm (arrN (2 * (nsOf q).length) (pwvTo (nsOf q) s)) (arrN (2 * (nsOf q).length) (pwvTo (nsOf q) (s + 1))) (.map es clock) (.map (es.push ⟨wkey N v, .int .i64 0, clock⟩) (clock + 1)) (.map (es.push ⟨wkey N v, .int .i64 (s : Int), clock⟩) (clock + 1)))
          (G := GV [.pointer (some ⟨g, 0, none⟩), .pointer (some ⟨g, 0, none⟩), .pointer (some ⟨g, 0, none⟩), .slice (some ⟨bw, 0, none⟩) q.length q.length, .int .i64 s, .pointer (some ⟨g, 0, none⟩), .pointer (some ⟨g, 0, none⟩), .pointer (some ⟨g, 1, none⟩), .map (some bm), wkey N v, wkey N v, .int .i64 s, .pointer (some ⟨bw, 2 * s, none⟩), undef, .tuple #[.int .i64 0, goInt clock], goInt clock, undef])
          (by kernel_rfl) (ordL_spec (by kernel_rfl)) (dstB_spec (by kernel_rfl)) (inB_spec (by kernel_rfl)) ⟨rfl, rfl, rfl, rfl, fun _ _ _ => rfl, (e1.trans g1), hm0, fun h => absurd h (by decide)⟩ ?step ?fin
        case step =>
          intro i o a1 listed W ho hli hC hdep hsame
          have hlt17 : i < 17 := lt_of_some ho
          have hg : W.heap[g]? = some (.cells (codeCells bw bm (nsOf q).length L) 120 (0, 0)) := (hC.rest g (by omega) (by omega)).trans (e3.trans g2)
          have ht : W.heap[wr.heap.size]? = some (.cells #[.int .i64 N, .int .i64 v] 122 (0, 0)) := (hC.rest _ (by omega) (by omega)).trans ht8
          match i, hlt17, ho with
          | 0, _, ho =>
            obtain rfl := Option.some.inj ho
            exact step_val ho rfl (y_move rfl (hsame 5 (notB_spec (by kernel_rfl)))) rfl (hC.skip 0 (by decide) (by decide) (by decide))
          | 1, _, ho =>
            obtain rfl := Option.some.inj ho
            exact step_val ho rfl (y_nil rfl ((hdep ⟨0, .data⟩ (by simp) rfl).2 _ _ rfl rfl)) rfl (hC.skip 1 (by decide) (by decide) (by decide))
          | 2, _, ho =>
            obtain rfl := Option.some.inj ho
            exact step_val ho rfl (y_field rfl ((hdep ⟨1, .data⟩ (by simp) rfl).2 _ _ rfl rfl) (y_fa0 g W)) rfl (hC.skip 2 (by decide) (by decide) (by decide))
          | 3, _, ho =>
            obtain rfl := Option.some.inj ho
            exact step_val ho rfl (y_load rfl ((hdep ⟨2, .data⟩ (by simp) rfl).2 _ _ rfl rfl) (y_ld3 g 0 _ (.slice (some ⟨bw, 0, none⟩) q.length q.length) W (by kernel_rfl) (by rw [blk_cell hg, ← hnl]; rfl))) rfl (hC.skip 3 (by decide) (by decide) (by decide))
          | 4, _, ho =>
            obtain rfl := Option.some.inj ho
            exact step_val ho rfl (y_move rfl (hsame 7 (notB_spec (by kernel_rfl)))) rfl (hC.skip 4 (by decide) (by decide) (by decide))
          | 5, _, ho =>
            obtain rfl := Option.some.inj ho
            exact step_val ho rfl (y_move rfl (hsame 5 (notB_spec (by kernel_rfl)))) rfl (hC.skip 5 (by decide) (by decide) (by decide))
          | 6, _, ho =>
            obtain rfl := Option.some.inj ho
            exact step_val ho rfl (y_nil rfl ((hdep ⟨5, .data⟩ (by simp) rfl).2 _ _ rfl rfl)) rfl (hC.skip 6 (by decide) (by decide) (by decide))
          | 7, _, ho =>
            obtain rfl := Option.some.inj ho
            exact step_val ho rfl (y_field rfl ((hdep ⟨6, .data⟩ (by simp) rfl).2 _ _ rfl rfl) (y_fa1 g W)) rfl (hC.skip 7 (by decide) (by decide) (by decide))
          | 8, _, ho =>
            obtain rfl := Option.some.inj ho
            exact step_val ho rfl (y_load rfl ((hdep ⟨7, .data⟩ (by simp) rfl).2 _ _ rfl rfl) (y_ld3 g 1 _ (.map (some bm)) W (by kernel_rfl) (by rw [blk_cell hg]; rfl))) rfl (hC.skip 8 (by decide) (by decide) (by decide))
          | 9, _, ho =>
            obtain rfl := Option.some.inj ho
            exact step_val ho rfl (y_load rfl (hsame 9 (notB_spec (by kernel_rfl))) (y_ldw _ N v W ht)) rfl (hC.skip 9 (by decide) (by decide) (by decide))
          | 10, _, ho =>
            obtain rfl := Option.some.inj ho
            exact step_val ho rfl (y_load rfl (hsame 9 (notB_spec (by kernel_rfl))) (y_ldw _ N v W ht)) rfl (hC.skip 10 (by decide) (by decide) (by decide))
          | 11, _, ho =>
            obtain rfl := Option.some.inj ho
            exact step_val ho rfl (y_move rfl (hsame 7 (notB_spec (by kernel_rfl)))) rfl (hC.skip 11 (by decide) (by decide) (by decide))
          | 12, _, ho =>
            obtain rfl := Option.some.inj ho
            exact step_val ho rfl (y_index rfl ((hdep ⟨3, .data⟩ (by simp) rfl).2 _ _ rfl rfl) ((hdep ⟨4, .data⟩ (by simp) rfl).2 _ _ rfl rfl) (y_ia bw q.length s W hlt)) rfl (hC.skip 12 (by decide) (by decide) (by decide))
          | 13, _, ho =>
            obtain rfl := Option.some.inj ho
            have hwd := hC.words
            rw [if_neg (by rw [hli]; decide)] at hwd
            have hthere : W.there bw (2 * s) 2 := fun j hj => ⟨by rw [blk_cell hwd, arrN_get _ _ (by omega)]; rfl, blk_free hwd _⟩
            have hr := run_storeAt_mid (P := Tryd.prog) W bw (2 * s) 122 #[.int .i64 N, .int .i64 v] hthere (by kernel_rfl) (by simp [Value.oneCell'])
            rw [two_cells] at hr
            refine step_none ho rfl rfl (y_store rfl ((hdep ⟨12, .data⟩ (by simp) rfl).2 _ _ rfl rfl) ((hdep ⟨10, .data⟩ (by simp) rfl).2 _ _ rfl rfl) hr) ?_
            have hoth : ∀ k, k ≠ bw → ((W.setCell ⟨bw, 2 * s, none⟩ (.int .i64 N)).setCell ⟨bw, 2 * s + 1, none⟩ (.int .i64 v)).heap[k]? = W.heap[k]? := fun k hk => (Below.heap_setCell _ ⟨bw, 2 * s + 1, none⟩ _ k hk).trans (Below.heap_setCell _ ⟨bw, 2 * s, none⟩ _ k hk)
            refine ⟨hC.os, hC.tape, hC.output, by simpa [World.setCell] using hC.size, fun k h1 h2 => (hoth k h1).trans (hC.rest k h1 h2), ?_, ?_, ?_⟩
            · rw [lst_eq hli, if_pos rfl, blk_set (blk_set hwd (2 * s) (.int .i64 N)) (2 * s + 1) (.int .i64 v), arrN_set, arrN_set]
              have := pwvTo_succ (nsOf q) (s := s) (by rw [HNN.out.1]; exact h0) (2 * (nsOf q).length)
              rw [HNN.out.1, HV.out] at this
              rw [this]
            · rw [lst_ne (by decide), lst_ne (by decide), hoth bm (by omega)]; exact hC.map
            · rw [lst_ne (by decide), lst_ne (by decide)]; exact hC.order
          | 14, _, ho =>
            obtain rfl := Option.some.inj ho
            have hmp := hC.map
            have h16 : ¬ listed[16]? = some true := fun h => by have := hC.order h; rw [hli] at this; cases this
            rw [if_neg h16, if_neg (by rw [hli]; decide)] at hmp
            refine step_val ho rfl (y_entry rfl ((hdep ⟨8, .data⟩ (by simp) rfl).2 _ _ rfl rfl) ((hdep ⟨9, .data⟩ (by simp) rfl).2 _ _ rfl rfl) (hE W hmp)) rfl ?_
            refine ⟨hC.os, hC.tape, hC.output, by simpa [setBlock] using hC.size, fun k h1 h2 => (heap_setBlock_other hmp _ h2).trans (hC.rest k h1 h2), ?_, ?_, ?_⟩
            · rw [lst_ne (by decide), heap_setBlock_other hmp _ hmt.1.symm]; exact hC.words
            · rw [lst_ne (by decide), if_neg h16, lst_eq hli, if_pos rfl]; exact heap_setBlock_same hmp _
            · intro _; exact lst_eq hli
          | 15, _, ho =>
            obtain rfl := Option.some.inj ho
            exact step_val ho rfl (y_extract rfl ((hdep ⟨14, .data⟩ (by simp) rfl).2 _ _ rfl rfl) (fun u => by kernel_rfl)) rfl (hC.skip 15 (by decide) (by decide) (by decide))
          | 16, _, ho =>
            obtain rfl := Option.some.inj ho
            have hmp := hC.map
            rw [if_neg (by rw [hli]; decide), if_pos (hdep ⟨14, .chain⟩ (by simp) rfl).1] at hmp
            refine step_none ho rfl rfl (y_put rfl ((hdep ⟨8, .data⟩ (by simp) rfl).2 _ _ rfl rfl) ((hdep ⟨15, .data⟩ (by simp) rfl).2 _ _ rfl rfl) ((hdep ⟨11, .data⟩ (by simp) rfl).2 _ _ rfl rfl) (hS W hmp)) ?_
            refine ⟨hC.os, hC.tape, hC.output, by simpa [setBlock] using hC.size, fun k h1 h2 => (heap_setBlock_other hmp _ h2).trans (hC.rest k h1 h2), ?_, ?_, ?_⟩
            · rw [lst_ne (by decide), heap_setBlock_other hmp _ hmt.1.symm]; exact hC.words
            · rw [lst_eq hli, if_pos rfl]; exact heap_setBlock_same hmp _
            · intro _; rw [lst_ne (by decide)]; exact (hdep ⟨14, .chain⟩ (by simp) rfl).1
          | n + 17, h, _ => exact absurd h (by omega)
        case fin =>
          intro a1 listed w9 hall hC hgood hsame hsize hdef
          refine hK _ _ ?_
          have hact := act_of_same [0, 1, 2, 3, 4, 5, 6, 7, 8, 9, 10, 11, 12, 13, 14, 15, 16, 17, 18, 19, 20, 21, 22, 23, 24, 25, 26, 27, 28, 29, 30, 31, 32, 33, 34, 35, 36, 37, 38, 39, 40, 41, 42, 43, 44, 45, 46, 47, 48, 49, 50, 51, 52, 53, 54, 55, 56, 57, 58, 59, 60, 61, 62] (fun t => decide (37 ≤ t ∧ t ≤ 51)) (by kernel_rfl) (fun t ht => hsame t (wrB_spec (wr := fun t => decide (37 ≤ t ∧ t ≤ 51)) (by kernel_rfl) ht)) hsize hdef
          generalize a1.eval = f at hact
          simp only [List.map_cons, List.map_nil] at hact
          simp [Act.eval] at hact
          have n1 := hC.words
          rw [if_pos (hall 13 (by decide))] at n1
          have n2 := hC.map
          rw [if_pos (hall 16 (by decide))] at n2
          have n3 := hO w9 n2
          have n4 := (hC.rest g (by omega) (by omega)).trans (e3.trans g2)
          have n5 := (hC.rest bn (by omega) (by omega)).trans hn8
          have n6 : Below w.heap.size w w9 := ⟨hC.os.trans hl8.os, hC.tape.trans hl8.tape, hC.output.trans hl8.output, by rw [hC.size]; exact hl8.size, fun k hk => (hC.rest k (by omega) (by omega)).trans (hl8.block k hk)⟩
          have n7 := g4.put g3.isMap (n := N) (v := v) (s := s) (by omega) (by omega)
          have n8 := hC.size
          have hmf : (fun m u => if m = N ∧ u = v then some s else plookTo (nsOf q) s m u) = plookTo (nsOf q) (s + 1) := by
            funext m u
            rw [plookTo_succ (nsOf q) (show s < (nsOf q).length by omega), HNN.out.1, HV.out]
            by_cases h : m = N ∧ u = v
            · rw [if_pos h, if_pos ⟨by omega, h⟩]
            · rw [if_neg h, if_neg (fun q => h q.2)]
          have n9 := n7.congr hmf
          have n10 := g5.succ
          rw [HNN.out.1] at n10
          have c2 : w9.cell? ⟨g, 2, none⟩ = some (.int .i64 L) := by rw [blk_cell n4]; rfl
          have f2 := blk_free n4 2
          have n11 := blk_set n4 2 (.int .i64 ((max L N : Nat) : Int))
          have hmax : max (L : Int) (N : Int) = ((max L N : Nat) : Int) := by omega
          have HALL := Lib.hid (And.intro n1 (And.intro n3 (And.intro n4 (And.intro n5 (And.intro n6 (And.intro n8 (And.intro n9 (And.intro n10 (And.intro n11 hmax)))))))))
          clear n1 n2 n3 n4 n5 n6 n7 n8 n9 n10 n11 hmf hmax hC hgood hsame hsize hdef hall hS hE hO hm0 g1 g2 g3 g4 g5 g7 g8 hfresh e1 e2 e3 hl8 ht8 hn8 hlow H
          rw [hact]
          clear hact
          go_wp2_with fail
          have hLN : (if L < N then (N : Int) else (L : Int)) = ((max L N : Nat) : Int) := by split <;> omega
          rw [hLN]
          obtain ⟨n1, n3, n4, n5, n6, n8, n9, n10, n11, hmax⟩ := HALL.out
          have hk2 : ∀ k, k ≠ g → (w9.setCell ⟨g, 2, none⟩ (.int .i64 ((max L N : Nat) : Int))).heap[k]? = w9.heap[k]? := fun k hk => Below.heap_setCell _ ⟨g, 2, none⟩ _ k hk
          refine ⟨⟨s + 1, max L N, by omega, by go_num, Lib.hid ⟨(hk2 bw (by omega)).trans n1, n11, ⟨_, ownsMap_blk n3 (hk2 bm (by omega)), n9⟩, n10, by omega, (hk2 bn (by omega)).trans n5, n6.setCell (p := ⟨g, 2, none⟩) (by show w.heap.size ≤ g; omega) _⟩, by simp [World.setCell]; omega⟩, by simp [intOf]; omega⟩
    · obtain rfl : s = q.length := by omega
      go_wp2_with fail
      go_ret
      obtain ⟨g1, g2, ⟨D, g3, g4⟩, g5, g6, g7, g8⟩ := H.out
      rw [← hnl] at g4 g5 g1
      have hL := longTo_all (inR_le hin) g5
      have hw : arrN (2 * (nsOf q).length) (pwvTo (nsOf q) (nsOf q).length) = arrN (2 * (nsOf q).length) (pwv (nsOf q)) := arrN_congr fun i hi => by unfold pwvTo; rw [if_pos hi]
      rw [hw] at g1
      rw [hL] at g2
      exact ⟨g, rfl, ⟨bw, bm, _, D, ⟨by omega, by omega⟩, ⟨by omega, by omega⟩, ⟨by omega, by omega⟩, g2, g1, g3, g4⟩, g8⟩
end Go.Proofs.YtpnnfekfoomgaaaDoor
