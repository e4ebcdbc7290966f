/- Contracts of the squeezer's key, earlier and keep. Condition: the place lies within the bytes. Contracts of the squeezer's earlier and keep: its map of three bytes. Condition: the place lies within the bytes. Contract of the squeezer's alike. Condition: both places lie within the bytes. Contract of the squeezer's next. Condition: the map's places lie ahead and hold their keys. Contract of squeeze's fresh. Condition: none beside the bytes' own. Contract of squeeze's All: what bits it lays. Condition: none beside the bytes' own. Squeezed bits come back: what inflS makes of them; how many they are. Condition: no more than 32768 bytes. -/
import Derived.Test.YthfhafnffeijpaaDoorSx
import Derived.Deep.MidRow
import Derived.Laws.Cover3
import Derived.Deep.RegionHeld3
import Derived.Test.YthfhafnffeijpaaDoorLl
set_option linter.unusedVariables false
set_option maxRecDepth 100000
namespace Go.Proofs.YthfhafnffeijpaaDoor
open Go.RowKit Go.Maps Go.ChangeMaps

theorem zeroK (W : World) : (zeroValue 158).run Tryd.prog W = .ok (.agg #[.int .u8 0, .int .u8 0, .int .u8 0]) W := by kernel_rfl
theorem k3_st {ops : Array Oper} {rest : List Oper} {op : Oper} {a : Act} {W : World} {Q : Exit → Act → World → Prop} {x y : Operand} {u v z u' v' z' : Int} (hgd : op.guard = none) (ho : op.op = .store 158 x y) (b : Nat) (hx : a.eval x = .pointer (some ⟨b, 0, none⟩)) (hy : a.eval y = key3 u v z) (hh : W.heap[b]? = some (.cells #[.int .u8 u', .int .u8 v', .int .u8 z'] 158 (0, 0)))
    (h : wpList Tryd.prog ops Q rest (a.put op.dst undef) (W.setRow b #[.int .u8 u, .int .u8 v, .int .u8 z])) : wpList Tryd.prog ops Q (op :: rest) a W :=
  wpList_plain hgd fun _ hK => by
    have hi : (Tryd.prog.info? 158).map (·.size) = some 3 := by kernel_rfl
    unfold Oper.wp execOp
    unfold key3 at hy
    simp only [ho, hx, hy, Instr.storeAt, Instr.sureAddr, Sem.run_bind, Sem.run_pure, Result.andThen_ok, run_storeVar_row W b 158 158 #[.int .u8 u', .int .u8 v', .int .u8 z'] #[.int .u8 u, .int .u8 v, .int .u8 z] hh hi rfl (by simp [Value.oneCell'])]
    exact hK _ _ h
theorem k3_ld {ops : Array Oper} {rest : List Oper} {op : Oper} {a : Act} {W : World} {Q : Exit → Act → World → Prop} {x : Operand} {u v z : Int} (hgd : op.guard = none) (ho : op.op = .load 158 x) (b o : Nat) (hx : a.eval x = .pointer (some ⟨b, o, none⟩)) (h0 : W.cell? ⟨b, o, none⟩ = some (.int .u8 u)) (h1 : W.cell? ⟨b, o + 1, none⟩ = some (.int .u8 v)) (h2 : W.cell? ⟨b, o + 2, none⟩ = some (.int .u8 z))
    (h : wpList Tryd.prog ops Q rest (a.put op.dst (key3 u v z)) W) : wpList Tryd.prog ops Q (op :: rest) a W :=
  wpList_load_mid hgd 158 x ho b o hx [.int .u8 u, .int .u8 v, .int .u8 z] _ (fun j w hv => by
    match j, hv with
    | 0, hv => injection hv with hv; subst hv; exact h0
    | 1, hv => injection hv with hv; subst hv; exact h1
    | 2, hv => injection hv with hv; subst hv; exact h2) Tryd.underlying158 rfl (by kernel_rfl) h
theorem key3_ret {fn : Func} {tmps : Array Value} {W : World} {b : Nat} {u v z : Int} {r : Value} (hf : fn.results = #[.cell 4 158, .tmp 5]) (h4 : tmps.getD 4 undef = .pointer (some ⟨b, 0, none⟩)) (h5 : tmps.getD 5 undef = r) (hh : W.heap[b]? = some (.cells #[.int .u8 u, .int .u8 v, .int .u8 z] 158 (0, 0))) :
    (results fn tmps).run Tryd.prog W = .ok (.tuple #[key3 u v z, r]) W := by
  have hl := run_loadVar_row (P := Tryd.prog) W b _ 158 #[.int .u8 u, .int .u8 v, .int .u8 z] (0, 0) _ hh Tryd.underlying158 rfl (by kernel_rfl)
  have h4' : tmps[4]?.getD undef = .pointer (some ⟨b, 0, none⟩) := by rw [← h4, Array.getD_eq_getD_getElem?]
  have h5' : tmps[5]?.getD undef = r := by rw [← h5, Array.getD_eq_getD_getElem?]
  simp only [results, hf]
  simp [h4', h5', asAddr, hl, key3]
section
variable {low g base mb : Nat} {F : Nat → Prop} {gl gd : Nat} {ab : Option Addr} {cb : Nat} {l : List Int} {k : Nat} {f : Int → Int → Int → Option Nat} {L : List Bool} {w : World}
theorem sqKeyNo (h : SQ w low g base mb F gl gd ab cb l k f L) (p : Nat) (hp : l.length < p + 3) (hp2 : p ≤ l.length) (hl : l.length ≤ 32768) : Calls Tryd.prog 99 #[.pointer (some ⟨g, 0, none⟩), .int .i64 p] w fun e w' => e = .returned (.tuple #[key3 0 0 0, .bool false]) ∧ Below w.heap.size w w' := by
  have c0 := h.c0
  have hgl : g < w.heap.size := by have := h.at_; have := h.bw; omega
  have hz := zeroK
  have hnew := heap_alloc_new w (.cells #[.int .u8 0, .int .u8 0, .int .u8 0] 158)
  have hd : decide ((l.length : Int) - p < 3) = true := by simp; omega
  clear h
  go_enter Tryd.func99, Tryd.ntmps99
  go_wp2_with fail
  exact bodyPost_ret (key3_ret (u := 0) (v := 0) (z := 0) rfl rfl rfl hnew) rfl ⟨rfl, (Below.refl _ _).alloc (Nat.le_refl _) _⟩
theorem sqKeyYes (h : SQ w low g base mb F gl gd ab cb l k f L) (hcb : l.length ≤ cb) (p : Nat) (hp : p + 3 ≤ l.length) (hl : l.length ≤ 32768) : Calls Tryd.prog 99 #[.pointer (some ⟨g, 0, none⟩), .int .i64 p] w fun e w' => e = .returned (.tuple #[key3 (l.getD p 0) (l.getD (p + 1) 0) (l.getD (p + 2) 0), .bool true]) ∧ Below w.heap.size w w' := by
  have c0 := h.c0
  have hgl : g < w.heap.size := by have := h.at_; have := h.bw; omega
  have hz := zeroK
  have hnew := heap_alloc_new w (.cells #[.int .u8 0, .int .u8 0, .int .u8 0] 158)
  obtain ⟨T, hT⟩ : ∃ T : Nat, (p : Int) + 3 = T := ⟨p + 3, by omega⟩
  have hT3 : T - p = 3 := by omega
  have hbs := h.bs
  obtain ⟨a3, c3, r3, r3', b3, hc3, hc3', n3⟩ := cut_lh ab l.length cb l rfl hcb (fun e => by
    obtain ⟨_, hcs⟩ := h.bs
    obtain ⟨b, off, e2, _⟩ := hcs (by omega)
    rw [e] at e2; cases e2) p T (by omega) (by omega)
  rw [hT3] at r3 r3'
  have hlen : (cutOf l p T).length = 3 := by rw [cutOf_len (by omega), hT3]
  have hg3 : ∀ i, i < 3 → (cutOf l p T).getD i 0 = l.getD (p + i) 0 := fun i hi => by
    unfold cutOf
    simp only [List.getD_eq_getElem?_getD]
    rw [List.getElem?_take_of_lt (by omega), List.getElem?_drop]
  obtain ⟨_, hcs⟩ := b3 w low hbs
  obtain ⟨b, off, rfl, hbl, hc⟩ := hcs (by omega)
  have hbw : b < w.heap.size := by have := h.at_; omega
  have e0 : (w.alloc (.cells #[.int .u8 0, .int .u8 0, .int .u8 0] 158)).cell? ⟨b, off, none⟩ = some (.int .u8 (l.getD p 0)) := by
    have := hc 0 (by omega)
    rw [hg3 0 (by omega)] at this
    exact (cell_keep' (Below.heap_alloc w _ b hbw)).trans this
  have e1 : (w.alloc (.cells #[.int .u8 0, .int .u8 0, .int .u8 0] 158)).cell? ⟨b, off + 1, none⟩ = some (.int .u8 (l.getD (p + 1) 0)) := by
    have := hc 1 (by omega)
    rw [hg3 1 (by omega)] at this
    exact (cell_keep' (Below.heap_alloc w _ b hbw)).trans this
  have e2 : (w.alloc (.cells #[.int .u8 0, .int .u8 0, .int .u8 0] 158)).cell? ⟨b, off + 2, none⟩ = some (.int .u8 (l.getD (p + 2) 0)) := by
    have := hc 2 (by omega)
    rw [hg3 2 (by omega)] at this
    exact (cell_keep' (Below.heap_alloc w _ b hbw)).trans this
  have hap := fun (W : World) => run_arrayAt (w := W) (P := Tryd.prog) 158 _ 3 (some ⟨b, off, none⟩) 3 c3 Tryd.underlying158 (by decide)
  have hd : decide ((l.length : Int) - p < 3) = false := by simp; omega
  clear h b3 n3 hcs hc hbs hg3
  generalize l.getD p 0 = x at *
  generalize l.getD (p + 1) 0 = y at *
  generalize l.getD (p + 2) 0 = z at *
  go_enter Tryd.func99, Tryd.ntmps99
  go_wp2_with (first | (refine k3_ld rfl rfl b off rfl e0 e1 e2 ?_) | (refine k3_st rfl rfl w.heap.size rfl rfl hnew ?_))
  exact bodyPost_ret (key3_ret (u := x) (v := y) (z := z) rfl rfl rfl (setRow_heap _ _ _ _ _ _ hnew)) rfl ⟨rfl, low_setRow ((Below.refl _ _).alloc (Nat.le_refl _) _) (Nat.le_refl _) _⟩
end
end Go.Proofs.YthfhafnffeijpaaDoor

set_option linter.unusedVariables false
set_option maxRecDepth 100000
namespace Go.Proofs.YthfhafnffeijpaaDoor
open Go.RowKit Go.Maps Go.ChangeMaps

theorem key3_is {x y z : Int} (hx : 0 ≤ x ∧ x ≤ 255) (hy : 0 ≤ y ∧ y ≤ 255) (hz : 0 ≤ z ∧ z ≤ 255) : keyOf Tryd.prog 158 (key3 x y z) = some (kl3 x y z) := by
  have h1 := WalkArith.wf_u8 hx
  have h2 := WalkArith.wf_u8 hy
  have h3 := WalkArith.wf_u8 hz
  have : ∃ l, keyOf Tryd.prog 158 (key3 x y z) = some l := by
    have hkt : Tryd.prog.keyType 158 = true := by kernel_rfl
    obtain ⟨m, hm⟩ : ∃ m, Tryd.prog.types.size = m + 1 := ⟨Tryd.prog.types.size - 1, by kernel_rfl⟩
    have hc : Tryd.prog.cellsOf 158 = 3 := by kernel_rfl
    have hci : Tryd.prog.cellsOf 5 = 1 := by kernel_rfl
    unfold key3 keyOf
    simp only [Tryd.underlying158]
    rw [if_pos (by simp [hkt, Value.formed, Tryd.underlying158, hc]), hm]
    unfold Program.keyLits
    simp only [Tryd.underlying158, Value.cells]
    rw [if_pos (by rw [hc]; rfl), show List.range 3 = [0, 1, 2] from rfl]
    simp [hci, Program.keyLits, Tryd.underlying5, h1, h2, h3]
  obtain ⟨l, hl⟩ := this
  unfold kl3
  rw [hl]; rfl
theorem look3_is {W : World} {mb k : Nat} {D : DataW Unit} {f : Int → Int → Int → Option Nat} (hom : W.ownsMap Tryd.prog 158 (plainElem Tryd.prog 3) mb k D) (hm : MapIs3 D f) {x y z : Int} (hx : 0 ≤ x ∧ x ≤ 255) (hy : 0 ≤ y ∧ y ≤ 255) (hz : 0 ≤ z ∧ z ≤ 255) :
    (Instr.lookup 55 (.map (some mb)) (key3 x y z) true).run Tryd.prog W = .ok (.tuple #[.int .i64 (((f x y z).getD 0 : Nat) : Int), .bool (f x y z).isSome]) W := by
  obtain ⟨h1, h2⟩ := hm x y z hx hy hz
  obtain ⟨cv, ps, hlk, hcv⟩ := hom.look_ok key3_law Tryd.underlying55 (zeroI W) (plainElem_int Tryd.underlying3 (by decide : (Lit.int .i64 0).wf = true)) (key3_is hx hy hz)
  obtain ⟨c, rfl, hc, _⟩ := plainElem_int_inv Tryd.underlying3 hcv
  have hc := congrArg Prod.fst hc
  rw [hlk, h1]
  cases hp : f x y z with
  | none =>
    rw [hp] at h1
    have h3 := Maps.atKey_of_not_has (k := kl3 x y z) (D := D) h1 (.lit (.int .i64 0))
    rw [h3] at hc
    injection hc with hc
    injection hc with _ hc
    rw [← hc]; rfl
  | some s =>
    have h3 := h2 s hp
    rw [h3] at hc
    injection hc with hc
    injection hc with _ hc
    rw [← hc]; rfl

theorem kl3_ne {x y z x' y' z' : Int} (hx : 0 ≤ x ∧ x ≤ 255) (hy : 0 ≤ y ∧ y ≤ 255) (hz : 0 ≤ z ∧ z ≤ 255) (hx' : 0 ≤ x' ∧ x' ≤ 255) (hy' : 0 ≤ y' ∧ y' ≤ 255) (hz' : 0 ≤ z' ∧ z' ≤ 255) (h : ¬ (x = x' ∧ y = y' ∧ z = z')) : kl3 x y z ≠ kl3 x' y' z' := fun e => by
  have h1 := key3_is hx hy hz
  have h2 := key3_is hx' hy' hz'
  rw [← e] at h2
  have h3 := key3_law.inj h1 h2
  unfold key3 at h3
  simp at h3
  exact h h3
/-- a look-up, a key put in -/
def put3 (f : Int → Int → Int → Option Nat) (x y z : Int) (s : Nat) : Int → Int → Int → Option Nat := fun a b c => if a = x ∧ b = y ∧ c = z then some s else f a b c
theorem MapIs3.put {D : DataW Unit} {f : Int → Int → Int → Option Nat} (h : MapIs3 D f) (hD : IsMap D) {x y z : Int} {s : Nat} (hx : 0 ≤ x ∧ x ≤ 255) (hy : 0 ≤ y ∧ y ≤ 255) (hz : 0 ≤ z ∧ z ≤ 255) :
    MapIs3 (D.put (kl3 x y z) (.lit (.int .i64 (s : Int)))) (put3 f x y z s) := fun a b c ha hb hc => by
  have hk : WideAt.IsKeyLit (kl3 x y z) := key3_law.key (key3_is hx hy hz)
  unfold put3
  by_cases e : a = x ∧ b = y ∧ c = z
  · obtain ⟨rfl, rfl, rfl⟩ := e
    simp only [and_self, if_true]
    exact ⟨has_put_same hD hk _, fun t ht => by injection ht with ht; subst ht; exact atKey_put_same hD hk _ _⟩
  · simp only [e, if_false]
    have hne := kl3_ne ha hb hc hx hy hz e
    obtain ⟨h1, h2⟩ := h a b c ha hb hc
    exact ⟨by rw [has_put_other hne]; exact h1, fun t ht => by rw [atKey_put_other hne]; exact h2 t ht⟩
theorem Mp.put {W : World} {mb k : Nat} {f : Int → Int → Int → Option Nat} (h : Mp W mb k f) (hk : k ≤ 1000000) {x y z : Int} {s : Nat} (hs : s ≤ 1000000) (hx : 0 ≤ x ∧ x ≤ 255) (hy : 0 ≤ y ∧ y ≤ 255) (hz : 0 ≤ z ∧ z ≤ 255) :
    ∃ w', (Instr.mapUpdate 55 (.map (some mb)) (key3 x y z) (.int .i64 s)).run Tryd.prog W = .ok () w' ∧ Mp w' mb (k + 1) (put3 f x y z s) ∧ W.grownBy w' (some mb) := by
  obtain ⟨D, h1, h2⟩ := h
  obtain ⟨w', hr, ho, hg⟩ := h1.update key3_law Tryd.underlying55 (by unfold maxLen; omega) (key3_is hx hy hz) (plainElem_int Tryd.underlying3 (wf_nat (n := s) (by omega)))
  exact ⟨w', hr, ⟨_, ho, h2.put h1.isMap hx hy hz⟩, hg⟩
theorem by_getD {l : List Int} (h : Bytes l) (i : Nat) : 0 ≤ l.getD i 0 ∧ l.getD i 0 ≤ 255 := by
  rw [List.getD_eq_getElem?_getD]
  by_cases hi : i < l.length
  · rw [List.getElem?_eq_getElem hi]; exact h _ (List.getElem_mem hi)
  · rw [List.getElem?_eq_none (by omega)]; decide
section
variable {low g base mb : Nat} {F : Nat → Prop} {gl gd : Nat} {ab : Option Addr} {cb : Nat} {l : List Int} {k : Nat} {f : Int → Int → Int → Option Nat} {L : List Bool} {w : World}
theorem earlierNo (h : SQ w low g base mb F gl gd ab cb l k f L) (p : Nat) (hp : l.length < p + 3) (hp2 : p ≤ l.length) (hl : l.length ≤ 32768) : Calls Tryd.prog 68 #[.pointer (some ⟨g, 0, none⟩), .int .i64 p] w fun e w' => e = .returned (.tuple #[.int .i64 0, .bool false]) ∧ Below w.heap.size w w' := by
  have hkey := sqKeyNo h p hp hp2 hl
  have hz := zeroK
  clear h
  go_enter Tryd.func68, Tryd.ntmps68
  go_wp2_with fail
  refine hkey.mono ?_
  rintro e w1 ⟨rfl, hb1⟩
  have hnew := heap_alloc_new w1 (.cells #[.int .u8 0, .int .u8 0, .int .u8 0] 158)
  have hs1 := hb1.size
  have HB := Lib.hid hb1
  clear hkey hb1
  go_wp2_with (refine k3_st rfl rfl w1.heap.size rfl rfl hnew ?_)
  go_ret2
  exact ⟨rfl, low_setRow (HB.out.alloc hs1 _) hs1 _⟩
theorem earlierYes (h : SQ w low g base mb F gl gd ab cb l k f L) (hcb : l.length ≤ cb) (p : Nat) (hp : p + 3 ≤ l.length) (hl : l.length ≤ 32768) : Calls Tryd.prog 68 #[.pointer (some ⟨g, 0, none⟩), .int .i64 p] w fun e w' => e = .returned (.tuple #[.int .i64 (((f (l.getD p 0) (l.getD (p + 1) 0) (l.getD (p + 2) 0)).getD 0 : Nat) : Int), .bool (f (l.getD p 0) (l.getD (p + 1) 0) (l.getD (p + 2) 0)).isSome]) ∧ Below w.heap.size w w' := by
  have hkey := sqKeyYes h hcb p hp hl
  have hz := zeroK
  have hB := h.bs.1
  have hx := by_getD hB p
  have hy := by_getD hB (p + 1)
  have hzz := by_getD hB (p + 2)
  have H := Lib.hid h
  clear h hB
  generalize l.getD p 0 = x at *
  generalize l.getD (p + 1) 0 = y at *
  generalize l.getD (p + 2) 0 = z at *
  obtain ⟨v, hv⟩ : ∃ v, (f x y z).getD 0 = v := ⟨_, rfl⟩
  obtain ⟨bb, hbb⟩ : ∃ bb, (f x y z).isSome = bb := ⟨_, rfl⟩
  rw [hv, hbb]
  have HV := Lib.hid (And.intro hv hbb)
  clear hv hbb
  go_enter Tryd.func68, Tryd.ntmps68
  go_wp2_with fail
  refine hkey.mono ?_
  rintro e w1 ⟨rfl, hb1⟩
  have hnew := heap_alloc_new w1 (.cells #[.int .u8 0, .int .u8 0, .int .u8 0] 158)
  have hs1 := hb1.size
  have HB := Lib.hid hb1
  clear hkey hb1
  go_upto_region 2 with (refine k3_st rfl rfl w1.heap.size rfl rfl hnew ?_)
  have hset := setRow_heap _ _ _ #[.int .u8 x, .int .u8 y, .int .u8 z] _ _ hnew
  have hb2 : Below w.heap.size w ((w1.alloc (.cells #[.int .u8 0, .int .u8 0, .int .u8 0] 158)).setRow w1.heap.size #[.int .u8 x, .int .u8 y, .int .u8 z]) := low_setRow (HB.out.alloc hs1 _) hs1 _
  generalize (w1.alloc (.cells #[.int .u8 0, .int .u8 0, .int .u8 0] 158)).setRow w1.heap.size #[.int .u8 x, .int .u8 y, .int .u8 z] = w2 at *
  have h2 := H.out.below hb2
  obtain ⟨D, hom, hmi⟩ := h2.map
  have hlk : ∀ dd, (Instr.lookup 55 (.map (some mb)) (.agg #[.int .u8 x, .int .u8 y, .int .u8 z]) true).run Tryd.prog (w2.drewN dd) = .ok (.tuple #[.int .i64 (v : Int), .bool bb]) (w2.drewN dd) := fun dd => by rw [← HV.out.1, ← HV.out.2]; exact look3_is (W := w2.drewN dd) (ownsMap_blk hom rfl) hmi hx hy hzz
  have c5 := h2.c5
  have d0 : w2.cell? ⟨w1.heap.size, 0, none⟩ = some (.int .u8 x) := by rw [blk_cell hset]; rfl
  have d1 : w2.cell? ⟨w1.heap.size, 1, none⟩ = some (.int .u8 y) := by rw [blk_cell hset]; rfl
  have d2 : w2.cell? ⟨w1.heap.size, 2, none⟩ = some (.int .u8 z) := by rw [blk_cell hset]; rfl
  have HR := Lib.hid hb2
  clear hnew hset hb2 h2 H HB hom hmi
  go_wp2_with fail
  go_quiet (fail)
  go_wp2_with fail
  go_ret2
  exact ⟨rfl, low_drewN HR.out _⟩
theorem keepNo (h : SQ w low g base mb F gl gd ab cb l k f L) (p : Nat) (hp : l.length < p + 3) (hp2 : p ≤ l.length) (hl : l.length ≤ 32768) : Calls Tryd.prog 72 #[.pointer (some ⟨g, 0, none⟩), .int .i64 p] w fun e w' => e = .returned (.tuple #[]) ∧ SQ w' low g base mb F gl gd ab cb l k f L ∧ Foot (SF g mb base) w w' := by
  have hkey := sqKeyNo h p hp hp2 hl
  have hz := zeroK
  have H := Lib.hid h
  clear h
  go_enter Tryd.func72, Tryd.ntmps72
  go_wp2_with fail
  refine hkey.mono ?_
  rintro e w1 ⟨rfl, hb1⟩
  have hnew := heap_alloc_new w1 (.cells #[.int .u8 0, .int .u8 0, .int .u8 0] 158)
  have hs1 := hb1.size
  have HB := Lib.hid hb1
  clear hkey hb1
  go_wp2_with (refine k3_st rfl rfl w1.heap.size rfl rfl hnew ?_)
  go_end0
  have hb2 := low_setRow (HB.out.alloc hs1 (.cells #[.int .u8 0, .int .u8 0, .int .u8 0] 158)) hs1 #[.int .u8 0, .int .u8 0, .int .u8 0]
  exact ⟨rfl, H.out.below hb2, Foot.of_below hb2⟩
/-- the map has turned, nothing else -/
theorem SQ.kept (h : SQ w low g base mb F gl gd ab cb l k f L) {w' : World} {k' : Nat} {f' : Int → Int → Int → Option Nat} (hm : Mp w' mb k' f') (hg : w.grownBy w' (some mb)) : SQ w' low g base mb F gl gd ab cb l k' f' L ∧ Foot (SF g mb base) w w' := by
  have hf : Foot (fun i => i = mb) w w' := (Foot.refl _ _).grown hg (fun q e => .inl (by injection e with e; exact e.symm))
  have hfs : Foot (SF g mb base) w w' := hf.more fun i _ e => .inr (.inl e)
  have hb := h.bw
  have ha := h.at_
  obtain ⟨a, c, hw⟩ := h.wt
  refine ⟨⟨⟨a, c, hw.keep fun i hi => hf.block i ?_ ?_⟩, h.lit.keep fun b hq => hfs.block b (by have := (h.far b hq).1; omega) (h.off hq), h.dist.keep fun b hq => hfs.block b (by have := (h.far b hq).1; omega) (h.off hq), hm, h.bs.below (sf_low h hfs), h.far, h.at_, Nat.le_trans h.bw hf.size⟩, hfs⟩
  · rcases hi with e | e
    · omega
    · exact (hw.2.1.lt i e).2
  · rcases hi with e | e
    · omega
    · have := (hw.2.1.lt i e).1; omega
theorem keepYes (h : SQ w low g base mb F gl gd ab cb l k f L) (hcb : l.length ≤ cb) (hk : k ≤ 1000000) (p : Nat) (hp : p + 3 ≤ l.length) (hl : l.length ≤ 32768) : Calls Tryd.prog 72 #[.pointer (some ⟨g, 0, none⟩), .int .i64 p] w fun e w' => e = .returned (.tuple #[]) ∧ SQ w' low g base mb F gl gd ab cb l (k + 1) (put3 f (l.getD p 0) (l.getD (p + 1) 0) (l.getD (p + 2) 0) p) L ∧ Foot (SF g mb base) w w' := by
  have hkey := sqKeyYes h hcb p hp hl
  have hz := zeroK
  have hB := h.bs.1
  have hx := by_getD hB p
  have hy := by_getD hB (p + 1)
  have hzz := by_getD hB (p + 2)
  have H := Lib.hid h
  clear h hB
  generalize l.getD p 0 = x at *
  generalize l.getD (p + 1) 0 = y at *
  generalize l.getD (p + 2) 0 = z at *
  go_enter Tryd.func72, Tryd.ntmps72
  go_wp2_with fail
  refine hkey.mono ?_
  rintro e w1 ⟨rfl, hb1⟩
  have hnew := heap_alloc_new w1 (.cells #[.int .u8 0, .int .u8 0, .int .u8 0] 158)
  have hs1 := hb1.size
  have HB := Lib.hid hb1
  clear hkey hb1
  go_upto_region 1 with (refine k3_st rfl rfl w1.heap.size rfl rfl hnew ?_)
  have hset := setRow_heap _ _ _ #[.int .u8 x, .int .u8 y, .int .u8 z] _ _ hnew
  have hb2 : Below w.heap.size w ((w1.alloc (.cells #[.int .u8 0, .int .u8 0, .int .u8 0] 158)).setRow w1.heap.size #[.int .u8 x, .int .u8 y, .int .u8 z]) := low_setRow (HB.out.alloc hs1 _) hs1 _
  generalize (w1.alloc (.cells #[.int .u8 0, .int .u8 0, .int .u8 0] 158)).setRow w1.heap.size #[.int .u8 x, .int .u8 y, .int .u8 z] = w2 at *
  have h2 := H.out.below hb2
  have hdr : Below w2.heap.size w2 w2.drew := ⟨rfl, rfl, rfl, Nat.le_refl _, fun _ _ => rfl⟩
  have h3 := h2.below hdr
  obtain ⟨w4, hup, hm4, hg4⟩ := h3.map.put hk (s := p) (by omega) hx hy hzz
  have hlast := h3.kept hm4 hg4
  have HR : Hid (SQ w4 low g base mb F gl gd ab cb l (k + 1) (put3 f x y z p) L ∧ Foot (SF g mb base) w w4) := Lib.hid ⟨hlast.1, ((Foot.of_below hb2).trans (Foot.of_below hdr)).trans hlast.2⟩
  have c5 := h2.c5
  have d0 : w2.cell? ⟨w1.heap.size, 0, none⟩ = some (.int .u8 x) := by rw [blk_cell hset]; rfl
  have d1 : w2.cell? ⟨w1.heap.size, 1, none⟩ = some (.int .u8 y) := by rw [blk_cell hset]; rfl
  have d2 : w2.cell? ⟨w1.heap.size, 2, none⟩ = some (.int .u8 z) := by rw [blk_cell hset]; rfl
  unfold key3 at hup
  clear hnew hset hb2 h2 h3 H HB hm4 hg4 hlast hdr
  go_wp2_with fail
  go_region_law (fail)
  all_goals
    go_wp2_with fail
    go_end0
    exact ⟨rfl, HR.out⟩
end
end Go.Proofs.YthfhafnffeijpaaDoor

set_option linter.unusedVariables false
set_option maxRecDepth 100000
namespace Go.Proofs.YthfhafnffeijpaaDoor
open Go.RowKit Go.Maps Go.ChangeMaps

/-- how many bytes are the same from two places on, of the r behind the first n -/
def alikeS (l : List Int) (p q : Nat) : Nat → Nat → Nat
  | 0, n => n
  | r + 1, n => if l.getD (p + n) 0 = l.getD (q + n) 0 then alikeS l p q r (n + 1) else n
section
variable {low g base mb : Nat} {F : Nat → Prop} {gl gd : Nat} {ab : Option Addr} {cb : Nat} {l : List Int} {k : Nat} {f : Int → Int → Int → Option Nat} {L : List Bool} {w : World}
theorem sqAlike (h : SQ w low g base mb F gl gd ab cb l k f L) (p q : Nat) (hpq : p < q) (hq : q ≤ l.length) (hl : l.length ≤ 32768) : Calls Tryd.prog 69 #[.pointer (some ⟨g, 0, none⟩), .int .i64 p, .int .i64 q] w fun e w' => e = .returned (.int .i64 (alikeS l p q (min 258 (l.length - q)) 0 : Nat)) ∧ Below w.heap.size w w' := by
  have c0 := h.c0
  obtain ⟨M, hM⟩ : ∃ M, min 258 (l.length - q) = M := ⟨_, rfl⟩
  obtain ⟨X, hX⟩ : ∃ X : Nat, (l.length : Int) - q = X := ⟨l.length - q, by omega⟩
  have hMX : M = min 258 X := by omega
  have hMq : q + M ≤ l.length := by omega
  have hM258 : M ≤ 258 := by omega
  obtain ⟨R, hR⟩ : ∃ R, alikeS l p q M 0 = R := ⟨_, rfl⟩
  rw [hM, hR]
  have HR : Hid (alikeS l p q M 0 = R) := Lib.hid hR
  have HB := Lib.hid h.bs
  have hgl : g < w.heap.size := by have := h.at_; have := h.bw; omega
  have hlow : low ≤ w.heap.size := by have := h.at_; omega
  clear h hM hR
  go_enter Tryd.func69, Tryd.ntmps69
  have hmin : M = 258 ∧ 258 ≤ X ∨ M = X ∧ X < 258 := by omega
  clear hMX
  rcases hmin with ⟨rfl, hm2⟩ | ⟨rfl, hm2⟩
  · go_wp2_with fail
    go_loopw [18] (fun i wr => ∃ n : Nat, n ≤ 258 ∧ i = .int .i64 n ∧ Hid (alikeS l p q (258 - n) n = R) ∧ Hid (Below w.heap.size w wr)) (fun i _ => 258 - (intOf i).toNat)
    case atStart => exact ⟨0, Nat.zero_le _, rfl, HR, Lib.hid (Below.refl _ _)⟩
    case round =>
      obtain ⟨n, hn, rfl, HQ, HD⟩ := hrel
      by_cases hlt : n < 258
      · obtain ⟨b, off, rfl, hbl, hc⟩ := (HB.out.below (HD.out.mono hlow)).2 (by omega)
        have cx : wr.cell? ⟨b, off + (p + n), none⟩ = some (.int .u8 (l.getD (p + n) 0)) := hc (p + n) (by omega)
        have cy : wr.cell? ⟨b, off + (q + n), none⟩ = some (.int .u8 (l.getD (q + n) 0)) := hc (q + n) (by omega)
        have c0' : wr.cell? ⟨g, 0, none⟩ = some (.slice (some ⟨b, off, none⟩) l.length cb) := (cell_keep' (HD.out.block g hgl)).trans c0
        have hstep : alikeS l p q (258 - n) n = if l.getD (p + n) 0 = l.getD (q + n) 0 then alikeS l p q (258 - (n + 1)) (n + 1) else n := by
          rw [show 258 - n = (258 - (n + 1)) + 1 by omega]; rfl
        have HS := Lib.hid (hstep.symm.trans HQ.out)
        clear hstep hc hbl
        obtain ⟨P, hP⟩ : ∃ P, p + n = P := ⟨_, rfl⟩
        obtain ⟨Q, hQ⟩ : ∃ Q, q + n = Q := ⟨_, rfl⟩
        rw [hP] at cx HS
        rw [hQ] at cy HS
        generalize l.getD P 0 = x at *
        generalize l.getD Q 0 = y at *
        have hPl : P < l.length := by omega
        have hQl : Q < l.length := by omega
        have i1 : (p : Int) + n = P := by omega
        have i2 : (q : Int) + n = Q := by omega
        have i3 : IntKind.i64.wrap (P : Int) = P := IntWalk.i64_in _ (by omega)
        have i4 : IntKind.i64.wrap (Q : Int) = Q := IntWalk.i64_in _ (by omega)
        clear hP hQ
        by_cases hxy : x = y
        · subst hxy
          go_wp2_with fail
          go_quiet (fail)
          go_wp2_with fail
          go_roundw
          case rel => exact ⟨n + 1, by omega, by go_num, Lib.hid (by simpa using HS.out), Lib.hid (low_drewN HD.out _)⟩
          case measure => simp [intOf]; omega
        · have hne : (x != y) = true := by simpa using hxy
          go_wp2_with fail
          go_quiet (fail)
          go_wp2_with fail
          go_ret
          have := HS.out
          rw [if_neg hxy] at this
          exact ⟨by rw [← this]; rfl, low_drewN HD.out _⟩
      · have hnM : n = 258 := by omega
        subst hnM
        have hq2 := HQ.out
        rw [Nat.sub_self, alikeS] at hq2
        have HE := Lib.hid hq2
        clear hq2 HQ
        go_wp2_with fail
        go_ret
        exact ⟨by rw [← HE.out]; rfl, HD.out⟩
  · go_wp2_with fail
    go_loopw [18] (fun i wr => ∃ n : Nat, n ≤ M ∧ i = .int .i64 n ∧ Hid (alikeS l p q (M - n) n = R) ∧ Hid (Below w.heap.size w wr)) (fun i _ => M - (intOf i).toNat)
    case atStart => exact ⟨0, Nat.zero_le _, rfl, HR, Lib.hid (Below.refl _ _)⟩
    case round =>
      obtain ⟨n, hn, rfl, HQ, HD⟩ := hrel
      by_cases hlt : n < M
      · obtain ⟨b, off, rfl, hbl, hc⟩ := (HB.out.below (HD.out.mono hlow)).2 (by omega)
        have cx : wr.cell? ⟨b, off + (p + n), none⟩ = some (.int .u8 (l.getD (p + n) 0)) := hc (p + n) (by omega)
        have cy : wr.cell? ⟨b, off + (q + n), none⟩ = some (.int .u8 (l.getD (q + n) 0)) := hc (q + n) (by omega)
        have c0' : wr.cell? ⟨g, 0, none⟩ = some (.slice (some ⟨b, off, none⟩) l.length cb) := (cell_keep' (HD.out.block g hgl)).trans c0
        have hstep : alikeS l p q (M - n) n = if l.getD (p + n) 0 = l.getD (q + n) 0 then alikeS l p q (M - (n + 1)) (n + 1) else n := by
          rw [show M - n = (M - (n + 1)) + 1 by omega]; rfl
        have HS := Lib.hid (hstep.symm.trans HQ.out)
        clear hstep hc hbl
        obtain ⟨P, hP⟩ : ∃ P, p + n = P := ⟨_, rfl⟩
        obtain ⟨Q, hQ⟩ : ∃ Q, q + n = Q := ⟨_, rfl⟩
        rw [hP] at cx HS
        rw [hQ] at cy HS
        generalize l.getD P 0 = x at *
        generalize l.getD Q 0 = y at *
        have hPl : P < l.length := by omega
        have hQl : Q < l.length := by omega
        have i1 : (p : Int) + n = P := by omega
        have i2 : (q : Int) + n = Q := by omega
        have i3 : IntKind.i64.wrap (P : Int) = P := IntWalk.i64_in _ (by omega)
        have i4 : IntKind.i64.wrap (Q : Int) = Q := IntWalk.i64_in _ (by omega)
        clear hP hQ
        by_cases hxy : x = y
        · subst hxy
          go_wp2_with fail
          go_quiet (fail)
          go_wp2_with fail
          go_roundw
          case rel => exact ⟨n + 1, by omega, by go_num, Lib.hid (by simpa using HS.out), Lib.hid (low_drewN HD.out _)⟩
          case measure => simp [intOf]; omega
        · have hne : (x != y) = true := by simpa using hxy
          go_wp2_with fail
          go_quiet (fail)
          go_wp2_with fail
          go_ret
          have := HS.out
          rw [if_neg hxy] at this
          exact ⟨by rw [← this]; rfl, low_drewN HD.out _⟩
      · have hnM : n = M := by omega
        subst hnM
        have hq2 := HQ.out
        rw [Nat.sub_self, alikeS] at hq2
        have HE := Lib.hid hq2
        clear hq2 HQ
        go_wp2_with fail
        go_ret
        exact ⟨by rw [← HE.out]; rfl, HD.out⟩
end
end Go.Proofs.YthfhafnffeijpaaDoor

set_option linter.unusedVariables false
set_option maxRecDepth 100000
namespace Go.Proofs.YthfhafnffeijpaaDoor
open Go.RowKit Go.Maps Go.ChangeMaps

theorem alikeS_bd (l : List Int) (p q : Nat) : ∀ r n, n ≤ alikeS l p q r n ∧ alikeS l p q r n ≤ n + r
  | 0, n => ⟨Nat.le_refl _, Nat.le_refl _⟩
  | r + 1, n => by
    unfold alikeS
    have ih := alikeS_bd l p q r (n + 1)
    split
    · omega
    · omega
theorem alikeS_three {l : List Int} {p q r : Nat} (hr : 3 ≤ r) (h0 : l.getD p 0 = l.getD q 0) (h1 : l.getD (p + 1) 0 = l.getD (q + 1) 0) (h2 : l.getD (p + 2) 0 = l.getD (q + 2) 0) : 3 ≤ alikeS l p q r 0 := by
  obtain ⟨s, rfl⟩ : ∃ s, r = s + 1 + 1 + 1 := ⟨r - 3, by omega⟩
  unfold alikeS
  rw [if_pos (by simpa using h0)]
  unfold alikeS
  rw [if_pos (by simpa using h1)]
  unfold alikeS
  rw [if_pos (by simpa using h2)]
  exact (alikeS_bd l p q s 3).1
/-- every place of the map lies ahead and holds its key -/
def FI (l : List Int) (f : Int → Int → Int → Option Nat) (at_ : Nat) : Prop := ∀ x y z s, f x y z = some s → s < at_ ∧ s + 3 ≤ l.length ∧ l.getD s 0 = x ∧ l.getD (s + 1) 0 = y ∧ l.getD (s + 2) 0 = z
/-- a place kept -/
def keepF (l : List Int) (f : Int → Int → Int → Option Nat) (p : Nat) : Int → Int → Int → Option Nat := if p + 3 ≤ l.length then put3 f (l.getD p 0) (l.getD (p + 1) 0) (l.getD (p + 2) 0) p else f
def keepN (l : List Int) (f : Int → Int → Int → Option Nat) (p : Nat) : Nat → Int → Int → Int → Option Nat
  | 0 => f
  | n + 1 => keepF l (keepN l f p n) (p + n)
theorem FI.keep {l : List Int} {f : Int → Int → Int → Option Nat} {p : Nat} (h : FI l f p) : FI l (keepF l f p) (p + 1) := fun x y z s hs => by
  unfold keepF at hs
  split at hs
  · rename_i hp
    unfold put3 at hs
    split at hs
    · rename_i e
      injection hs with hs
      subst hs
      exact ⟨by omega, hp, e.1.symm, e.2.1.symm, e.2.2.symm⟩
    · have := h x y z s hs
      exact ⟨by omega, this.2⟩
  · have := h x y z s hs
    exact ⟨by omega, this.2⟩
theorem FI.keepN {l : List Int} {f : Int → Int → Int → Option Nat} {p : Nat} (h : FI l f p) : ∀ n, FI l (keepN l f p n) (p + n)
  | 0 => h
  | n + 1 => (FI.keepN h n).keep
/-- what stands at a place, found earlier -/
def foundS (l : List Int) (f : Int → Int → Int → Option Nat) (p : Nat) : Option Nat := if p + 3 ≤ l.length then f (l.getD p 0) (l.getD (p + 1) 0) (l.getD (p + 2) 0) else none
/-- how many bytes a step lays, and which bits -/
def sizeS (l : List Int) (f : Int → Int → Int → Option Nat) (p : Nat) : Nat := match foundS l f p with
  | some s => alikeS l s p (min 258 (l.length - p)) 0
  | none => 1
def stepL (l : List Int) (f : Int → Int → Int → Option Nat) (L : List Bool) (p : Nat) : List Bool := match foundS l f p with
  | some s => backL (lenL L (alikeS l s p (min 258 (l.length - p)) 0)) (p - s)
  | none => L ++ wB (nsOf fixL) (l.getD p 0).toNat
theorem putL_le (L : List Bool) (n : Nat) (v : Int) : (putL L n v).length = L.length + n := by rw [putL_len]
section
variable {low g base mb : Nat} {F : Nat → Prop} {gl gd : Nat} {ab : Option Addr} {cb : Nat} {l : List Int} {k : Nat} {f : Int → Int → Int → Option Nat} {L : List Bool} {w : World}
/-- keep, whether a key stands there or not -/
theorem sqKeep (h : SQ w low g base mb F gl gd ab cb l k f L) (hcb : l.length ≤ cb) (hk : k ≤ 1000000) (p : Nat) (hp : p ≤ l.length) (hl : l.length ≤ 32768) : Calls Tryd.prog 72 #[.pointer (some ⟨g, 0, none⟩), .int .i64 p] w fun e w' => e = .returned (.tuple #[]) ∧ (∃ k', k' ≤ k + 1 ∧ SQ w' low g base mb F gl gd ab cb l k' (keepF l f p) L) ∧ Foot (SF g mb base) w w' := by
  unfold keepF
  by_cases hp3 : p + 3 ≤ l.length
  · rw [if_pos hp3]
    refine (keepYes h hcb hk p hp3 hl).mono ?_
    rintro e w' ⟨rfl, h1, h2⟩
    exact ⟨rfl, ⟨k + 1, Nat.le_refl _, h1⟩, h2⟩
  · rw [if_neg hp3]
    refine (keepNo h p (by omega) hp hl).mono ?_
    rintro e w' ⟨rfl, h1, h2⟩
    exact ⟨rfl, ⟨k, by omega, h1⟩, h2⟩
/-- earlier, whether a key stands there or not -/
theorem sqEarlier (h : SQ w low g base mb F gl gd ab cb l k f L) (hcb : l.length ≤ cb) (p : Nat) (hp : p ≤ l.length) (hl : l.length ≤ 32768) : Calls Tryd.prog 68 #[.pointer (some ⟨g, 0, none⟩), .int .i64 p] w fun e w' => e = .returned (.tuple #[.int .i64 (((foundS l f p).getD 0 : Nat) : Int), .bool (foundS l f p).isSome]) ∧ Below w.heap.size w w' := by
  unfold foundS
  by_cases hp3 : p + 3 ≤ l.length
  · rw [if_pos hp3]; exact earlierYes h hcb p hp3 hl
  · rw [if_neg hp3]; exact earlierNo h p (by omega) hp hl
theorem lenL_le (L : List Bool) (m : Nat) (hm : m ≤ 255) : (lenL L (m + 3)).length ≤ L.length + 20 := by
  unfold lenL
  split
  · rw [List.length_append]; have := wB_le fixL_all 285; omega
  · rename_i hne
    have hb := (sprS_bd (v := m + 3 - 3) (size := 2) (n := 6) (by omega)).2
    rw [putL_le, List.length_append]
    have := wB_le fixL_all (257 + (sprS (m + 3 - 3) 2).1)
    omega
set_option maxHeartbeats 2000000 in
theorem sqNext (h : SQ w low g base mb F gl gd ab cb l k f L) (hcb : l.length ≤ cb) (p : Nat) (hfi : FI l f p) (hp : p < l.length) (hl : l.length ≤ 32768) (hk : k ≤ 100000) (hL : L.length ≤ 137438953472) :
    Calls Tryd.prog 35 #[.pointer (some ⟨g, 0, none⟩), .int .i64 p] w fun e w' => e = .returned (.int .i64 (sizeS l f p : Nat)) ∧ (∃ k', k' ≤ k + sizeS l f p ∧ SQ w' low g base mb F gl gd ab cb l k' (keepN l f p (sizeS l f p)) (stepL l f L p)) ∧ Foot (SF g mb base) w w' := by
  have hear := sqEarlier h hcb p (by omega) hl
  obtain ⟨r, hr⟩ : ∃ r, foundS l f p = r := ⟨_, rfl⟩
  obtain ⟨Z, hZ⟩ : ∃ Z, sizeS l f p = Z := ⟨_, rfl⟩
  obtain ⟨L2, hL2⟩ : ∃ L2, stepL l f L p = L2 := ⟨_, rfl⟩
  rw [hZ, hL2]
  rw [hr] at hear
  unfold sizeS at hZ
  unfold stepL at hL2
  rw [hr] at hZ hL2
  have H := Lib.hid h
  cases r with
  | none =>
    simp only [Option.getD_none, Option.isSome_none] at hear hZ hL2
    subst hZ
    have hby := by_getD h.bs.1 p
    obtain ⟨B, hB⟩ : ∃ B : Nat, l.getD p 0 = B := Int.eq_ofNat_of_zero_le hby.1
    rw [hB] at hby hL2
    rw [Int.toNat_natCast] at hL2
    have hcell : ∀ W, SQ W low g base mb F gl gd ab cb l k f L → ∃ b off, ab = some ⟨b, off, none⟩ ∧ W.cell? ⟨b, off + p, none⟩ = some (.int .u8 B) := fun W hW => by
      obtain ⟨b, off, e, _, hc⟩ := hW.bs.2 (by omega)
      exact ⟨b, off, e, by rw [← hB]; exact hc p hp⟩
    obtain ⟨b, off, rfl, _⟩ := hcell w h
    have hbyte : ∀ W {k2 : Nat} {f2 : Int → Int → Int → Option Nat} {L3 : List Bool}, SQ W low g base mb F gl gd (some ⟨b, off, none⟩) cb l k2 f2 L3 → W.cell? ⟨b, off + p, none⟩ = some (.int .u8 B) := fun W k2 f2 L3 hW => by
      obtain ⟨b', off', e, _, hc⟩ := hW.bs.2 (by omega)
      injection e with e; injection e with e1 e2; subst e1; subst e2
      rw [← hB]; exact hc p hp
    have hfi2 := Lib.hid hfi
    have HBY := Lib.hid hbyte
    have hB255 : B ≤ 255 := by omega
    have HL2 := Lib.hid hL2
    clear hcell hbyte hr hfi hB hby hL2 h
    go_enter Tryd.func35, Tryd.ntmps35
    go_wp2_with fail
    refine hear.mono ?_
    rintro e w1 ⟨rfl, hb1⟩
    have h1 := H.out.below hb1
    have c3 := h1.c3
    have c0 := h1.c0
    have cB := HBY.out _ h1
    have hwd := sqLit (w := w1.drew) (h1.below ⟨rfl, rfl, rfl, Nat.le_refl _, fun _ _ => rfl⟩) (S := B) (by omega) (by omega)
    have i1 : IntKind.i64.wrap (B : Int) = B := IntWalk.i64_in _ (by omega)
    have H1 : Hid (Foot (SF g mb base) w w1) := Lib.hid (Foot.of_below hb1)
    clear hear hb1 h1 H
    go_wp2_with fail
    go_region_held3 (fun W => W.cell? ⟨g, 3, none⟩ = some (.pointer (some ⟨gl, 0, none⟩)) ∧ W.cell? ⟨g, 0, none⟩ = some (.slice (some ⟨b, off, none⟩) l.length cb) ∧ W.cell? ⟨b, off + p, none⟩ = some (.int .u8 B)) (first | exact ⟨h2.c3, h2.c0, HBY.out _ h2⟩ | go_keep) ((go_at_call 36; (with_reducible refine hwd.mono ?_); rintro e w2 ⟨rfl, h2, hf2⟩))
    have hdr : Below w1.heap.size w1 w1.drew := ⟨rfl, rfl, rfl, Nat.le_refl _, fun _ _ => rfl⟩
    have HS : Hid (SQ w2 low g base mb F gl gd (some ⟨b, off, none⟩) cb l k f L2 ∧ Foot (SF g mb base) w w2) := Lib.hid ⟨by rw [← HL2.out]; exact h2, (H1.out.trans (Foot.of_below hdr)).trans hf2⟩
    clear hwd h2 hf2 c3 c0 cB H1 HBY HL2 i1 hdr
    go_wp2_with fail
    go_loopw [43] (fun i wr => ∃ n : Nat, n ≤ 1 ∧ i = .int .i64 n ∧ Hid ((∃ k', k' ≤ k + n ∧ SQ wr low g base mb F gl gd (some ⟨b, off, none⟩) cb l k' (keepN l f p n) L2) ∧ Foot (SF g mb base) w wr)) (fun i _ => 1 - (intOf i).toNat)
    case atStart => exact ⟨0, Nat.zero_le _, rfl, Lib.hid ⟨⟨k, by omega, HS.out.1⟩, HS.out.2⟩⟩
    case round =>
      obtain ⟨n, hn, rfl, HQ⟩ := hrel
      by_cases hlt : n < 1
      · obtain ⟨⟨k', hk', hq⟩, hf⟩ := HQ.out
        have hkeep := sqKeep hq hcb (by omega) (p + n) (by omega) hl
        rw [show ((p + n : Nat) : Int) = (p : Int) + n by omega] at hkeep
        have HF := Lib.hid (And.intro hf hk')
        clear hq hf hk' HQ HS
        go_wp2_with fail
        refine hkeep.mono ?_
        rintro e w5 ⟨rfl, ⟨k2, hk2, hq2⟩, hf2⟩
        have H5 : Hid ((∃ k', k' ≤ k + (n + 1) ∧ SQ w5 low g base mb F gl gd (some ⟨b, off, none⟩) cb l k' (keepN l f p (n + 1)) L2) ∧ Foot (SF g mb base) w w5) := Lib.hid ⟨⟨k2, by have := HF.out.2; omega, hq2⟩, HF.out.1.trans hf2⟩
        clear hkeep hq2 hf2
        go_wp2_with fail
        go_roundw
        case rel => exact ⟨n + 1, by omega, by go_num, H5⟩
        case measure => simp [intOf]; omega
      · have hnz : n = 1 := by omega
        subst hnz
        go_wp2_with fail
        go_ret
        exact ⟨rfl, HQ.out⟩
  | some s =>
    simp only [Option.getD_some, Option.isSome_some] at hear hZ hL2
    unfold foundS at hr
    by_cases hp3 : p + 3 ≤ l.length
    · rw [if_pos hp3] at hr
      obtain ⟨q1, q2, q3, q4, q5⟩ := hfi _ _ _ _ hr
      have hz3 : 3 ≤ Z := by rw [← hZ]; exact alikeS_three (by omega) q3 q4 q5
      have hzb := (alikeS_bd l s p (min 258 (l.length - p)) 0).2
      rw [hZ] at hzb
      obtain ⟨m, rfl⟩ : ∃ m, Z = m + 3 := ⟨Z - 3, by omega⟩
      obtain ⟨d, hd⟩ : ∃ d, p = s + d + 1 := ⟨p - s - 1, by omega⟩
      have hps : (p : Int) - s = (d : Int) + 1 := by omega
      have hm255 : m ≤ 255 := by omega
      have hpm : p + (m + 3) ≤ l.length := by omega
      rw [hZ, show p - s = d + 1 by omega] at hL2
      have HL2 := Lib.hid hL2
      have HZ := Lib.hid hZ
      have hd2 : d < 32768 := by omega
      have hll := lenL_le L m hm255
      have HLL := Lib.hid hll
      clear hr hfi q3 q4 q5 hz3 hzb hd hL2 hZ h hll
      go_enter Tryd.func35, Tryd.ntmps35
      go_wp2_with fail
      refine hear.mono ?_
      rintro e w1 ⟨rfl, hb1⟩
      have h1 := H.out.below hb1
      have hal := sqAlike h1 s p (by omega) (by omega) hl
      rw [HZ.out, show ((m + 3 : Nat) : Int) = (m : Int) + 3 by omega] at hal
      have H1 := Lib.hid (And.intro h1 (Foot.of_below (F := SF g mb base) hb1))
      clear hear hb1 h1 H
      go_wp2_with fail
      refine hal.mono ?_
      rintro e w2 ⟨rfl, hb2⟩
      have h2 := H1.out.1.below hb2
      have hln := sqLength h2 m hm255 (by omega)
      have H2 : Hid (Foot (SF g mb base) w w2) := Lib.hid (H1.out.2.trans (Foot.of_below hb2))
      clear hal hb2 h2 H1
      go_wp2_with fail
      refine hln.mono ?_
      rintro e w3 ⟨rfl, h3, hf3⟩
      have hbk := sqBack h3 d hd2 (by have := HLL.out; omega)
      have H3 : Hid (Foot (SF g mb base) w w3) := Lib.hid (H2.out.trans hf3)
      clear hln h3 hf3 H2
      go_wp2_with fail
      refine hbk.mono ?_
      rintro e w4 ⟨rfl, h4, hf4⟩
      have HS : Hid (SQ w4 low g base mb F gl gd ab cb l k f L2 ∧ Foot (SF g mb base) w w4) := Lib.hid ⟨by rw [← HL2.out]; exact h4, H3.out.trans hf4⟩
      clear hbk h4 hf4 H3 HL2 HZ HLL hps
      go_wp2_with fail
      go_loopw [43] (fun i wr => ∃ n : Nat, n ≤ (m + 3) ∧ i = .int .i64 n ∧ Hid ((∃ k', k' ≤ k + n ∧ SQ wr low g base mb F gl gd ab cb l k' (keepN l f p n) L2) ∧ Foot (SF g mb base) w wr)) (fun i _ => (m + 3) - (intOf i).toNat)
      case atStart => exact ⟨0, Nat.zero_le _, rfl, Lib.hid ⟨⟨k, by omega, HS.out.1⟩, HS.out.2⟩⟩
      case round =>
        obtain ⟨n, hn, rfl, HQ⟩ := hrel
        by_cases hlt : n < (m + 3)
        · obtain ⟨⟨k', hk', hq⟩, hf⟩ := HQ.out
          have hkeep := sqKeep hq hcb (by omega) (p + n) (by omega) hl
          rw [show ((p + n : Nat) : Int) = (p : Int) + n by omega] at hkeep
          have HF := Lib.hid (And.intro hf hk')
          clear hq hf hk' HQ HS
          go_wp2_with fail
          refine hkeep.mono ?_
          rintro e w5 ⟨rfl, ⟨k2, hk2, hq2⟩, hf2⟩
          have H5 : Hid ((∃ k', k' ≤ k + (n + 1) ∧ SQ w5 low g base mb F gl gd ab cb l k' (keepN l f p (n + 1)) L2) ∧ Foot (SF g mb base) w w5) := Lib.hid ⟨⟨k2, by have := HF.out.2; omega, hq2⟩, HF.out.1.trans hf2⟩
          clear hkeep hq2 hf2
          go_wp2_with fail
          go_roundw
          case rel => exact ⟨n + 1, by omega, by go_num, H5⟩
          case measure => simp [intOf]; omega
        · have hnz : n = (m + 3) := by omega
          subst hnz
          go_wp2_with fail
          go_ret
          exact ⟨rfl, HQ.out⟩
    · rw [if_neg hp3] at hr
      cases hr
end
end Go.Proofs.YthfhafnffeijpaaDoor

set_option linter.unusedVariables false
set_option maxRecDepth 100000
namespace Go.Proofs.YthfhafnffeijpaaDoor
open Go.RowKit Go.Maps Go.ChangeMaps

set_option maxHeartbeats 8000000 in
theorem sqFresh (w : World) (ab : Option Addr) (nb cb : Nat) (l : List Int) (hn : l.length = nb) (hb : Bs w w.heap.size ab l) :
    Calls Tryd.prog 33 #[.slice ab nb cb] w fun e w' => ∃ g base mb gl gd, ∃ F : Nat → Prop, e = .returned (.pointer (some ⟨g, 0, none⟩)) ∧ SQ w' w.heap.size g base mb F gl gd ab cb l 0 (fun _ _ _ => none) [] ∧ Below w.heap.size w w' := by
  subst hn
  have hmm := @run_makeMap Tryd.prog
  have hzs : ∀ W : World, (zeroValue 57).run Tryd.prog W = .ok (.agg #[.slice none 0 0, .slice none 0 0, .int .i64 0, .pointer none, .pointer none, .map none]) W := fun W => by kernel_rfl
  have hmp := World.ownsMap_made (P := Tryd.prog) (k := 158) (R := plainElem (H := Unit) Tryd.prog 3) w
  go_enter Tryd.func33, Tryd.ntmps33
  go_upto_region 2 with (fail)
  have hR0 := heap_alloc_new (w.alloc (.map #[] 0)) (.cells #[.slice ab l.length cb, .slice none 0 0, .int .i64 0, .pointer none, .pointer none, .map (some w.heap.size)] 57)
  have hb1 := (Below.refl w.heap.size w).alloc (Nat.le_refl _) (.map #[] 0)
  have hz1 : (w.alloc (.map #[] 0)).heap.size = w.heap.size + 1 := by simp
  have hb0 : Below w.heap.size w ((w.alloc (.map #[] 0)).alloc (.cells #[.slice ab l.length cb, .slice none 0 0, .int .i64 0, .pointer none, .pointer none, .map (some w.heap.size)] 57)) := hb1.alloc (by omega) _
  have hz0 : ((w.alloc (.map #[] 0)).alloc (.cells #[.slice ab l.length cb, .slice none 0 0, .int .i64 0, .pointer none, .pointer none, .map (some w.heap.size)] 57)).heap.size = w.heap.size + 2 := by simp
  have hm0 := ownsMap_blk hmp (Below.heap_alloc (w.alloc (.map #[] 0)) (.cells #[.slice ab l.length cb, .slice none 0 0, .int .i64 0, .pointer none, .pointer none, .map (some w.heap.size)] 57) w.heap.size (by simp))
  rw [hz1] at hR0
  generalize ((w.alloc (.map #[] 0)).alloc (.cells #[.slice ab l.length cb, .slice none 0 0, .int .i64 0, .pointer none, .pointer none, .map (some w.heap.size)] 57)) = w0 at *
  have HW := Lib.hid (And.intro hR0 (And.intro hb0 (And.intro hz0 (And.intro hm0 hb))))
  clear hR0 hb1 hz1 hb0 hz0 hmp hm0 hb hmm
  have hrA := rep_after w0 8 144 (by decide)
  rw [show ((144 : Nat) : Int) = 144 from rfl] at hrA
  go_wp2_with fail
  refine hrA.mono ?_
  rintro e wA ⟨rfl, hkA, hbA⟩
  have hrB := rep_after wA 9 112 (by decide)
  rw [show ((112 : Nat) : Int) = 112 from rfl] at hrB
  have HA := Lib.hid (And.intro hkA hbA)
  clear hkA hbA hrA
  go_wp2_with fail
  refine hrB.mono ?_
  rintro e wB ⟨rfl, hkB, hbB⟩
  have hrC := rep_after wB 7 24 (by decide)
  rw [show ((24 : Nat) : Int) = 24 from rfl] at hrC
  have HB := Lib.hid (And.intro hkB hbB)
  clear hkB hbB hrB
  go_wp2_with fail
  refine hrC.mono ?_
  rintro e wC ⟨rfl, hkC, hbC⟩
  have hrD := rep_after wC 8 8 (by decide)
  rw [show ((8 : Nat) : Int) = 8 from rfl] at hrD
  have HC := Lib.hid (And.intro hkC hbC)
  clear hkC hbC hrC
  go_wp2_with fail
  refine hrD.mono ?_
  rintro e wD ⟨rfl, hkD, hbD⟩
  have HD := Lib.hid (And.intro hkD hbD)
  clear hkD hbD hrD
  go_wp2_with fail
  have hS := heap_alloc_new wD (.cells #[.slice (some ⟨w0.heap.size + 1, 0, none⟩) 144 144, .slice (some ⟨wA.heap.size + 1, 0, none⟩) 112 112, .slice (some ⟨wB.heap.size + 1, 0, none⟩) 24 24, .slice (some ⟨wC.heap.size + 1, 0, none⟩) 8 8] 77)
  have hbS := (Below.refl wD.heap.size wD).alloc (Nat.le_refl _) (.cells #[.slice (some ⟨w0.heap.size + 1, 0, none⟩) 144 144, .slice (some ⟨wA.heap.size + 1, 0, none⟩) 112 112, .slice (some ⟨wB.heap.size + 1, 0, none⟩) 24 24, .slice (some ⟨wC.heap.size + 1, 0, none⟩) 8 8] 77)
  have hzS : (wD.alloc (.cells #[.slice (some ⟨w0.heap.size + 1, 0, none⟩) 144 144, .slice (some ⟨wA.heap.size + 1, 0, none⟩) 112 112, .slice (some ⟨wB.heap.size + 1, 0, none⟩) 24 24, .slice (some ⟨wC.heap.size + 1, 0, none⟩) 8 8] 77)).heap.size = wD.heap.size + 1 := by simp
  generalize (wD.alloc (.cells #[.slice (some ⟨w0.heap.size + 1, 0, none⟩) 144 144, .slice (some ⟨wA.heap.size + 1, 0, none⟩) 112 112, .slice (some ⟨wB.heap.size + 1, 0, none⟩) 24 24, .slice (some ⟨wC.heap.size + 1, 0, none⟩) 8 8] 77)) = wS at *
  have hbAS : Below wA.heap.size wA wS := below_next (below_next (below_next HB.out.2 (Nat.le_refl _) HC.out.2) (Nat.le_refl _) HD.out.2) (Nat.le_refl _) hbS
  have hbBS : Below wB.heap.size wB wS := below_next (below_next HC.out.2 (Nat.le_refl _) HD.out.2) (Nat.le_refl _) hbS
  have hbCS : Below wC.heap.size wC wS := below_next HD.out.2 (Nat.le_refl _) hbS
  have hb0S : Below w0.heap.size w0 wS := below_next HA.out.2 (Nat.le_refl _) hbAS
  have hcon := concat_is wS wD.heap.size 4 (fun k => [w0.heap.size + 1, wA.heap.size + 1, wB.heap.size + 1, wC.heap.size + 1].getD k 0) (fun k hk => by
    rw [blk_cell hS]
    match k, hk with
    | 0, _ => rfl
    | 1, _ => rfl
    | 2, _ => rfl
    | 3, _ => rfl) (by omega) (fun k hk => by
    match k, hk with
    | 0, _ => exact (hbAS.block _ (blk_lt HA.out.1)).trans HA.out.1
    | 1, _ => exact (hbBS.block _ (blk_lt HB.out.1)).trans HB.out.1
    | 2, _ => exact (hbCS.block _ (blk_lt HC.out.1)).trans HC.out.1
    | 3, _ => exact (hbS.block _ (blk_lt HD.out.1)).trans HD.out.1)
  have HS := Lib.hid hb0S
  clear hS hbS hzS hbAS hbBS hbCS hb0S HA HB HC HD
  refine hcon.mono ?_
  rintro e wE ⟨ra, rc, rfl, hownE, hbE⟩
  have hbE0 : Below w0.heap.size w0 wE := below_next HS.out (Nat.le_refl _) hbE
  have hnwl := new_is (w := wE) ra 288 rc fixL (by decide) (by decide) (ints_row hownE (by decide) (by decide)) false
  have HE := Lib.hid hbE0
  clear hcon hownE hbE hbE0 HS
  go_wp2_with fail
  refine hnwl.mono ?_
  rintro e w7 ⟨hb7, ⟨hne, _⟩ | ⟨_, g1, rfl, hpc1⟩⟩
  · exact absurd fixL_ok hne
  have hb07 : Below w0.heap.size w0 w7 := below_next HE.out (Nat.le_refl _) hb7
  have hR7 := (hb07.block (w.heap.size + 1) (by have := HW.out.2.2.1; omega)).trans HW.out.1
  have f3 := blk_free hR7 3
  have hset := blk_set hR7 3 (.pointer (some ⟨g1, 0, none⟩))
  have q3 : w7.cell? ⟨w.heap.size + 1, 3, none⟩ = some (.pointer none) := blk_cell hR7 3
  obtain ⟨w8, hw8⟩ : ∃ w8, w8 = w7.setCell ⟨w.heap.size + 1, 3, none⟩ (.pointer (some ⟨g1, 0, none⟩)) := ⟨_, rfl⟩
  have hl8 : ∀ i, i ≠ w.heap.size + 1 → w8.heap[i]? = w7.heap[i]? := fun i hi => by rw [hw8]; exact Below.heap_setCell _ ⟨w.heap.size + 1, 3, none⟩ _ i hi
  have hz8 : w8.heap.size = w7.heap.size := by rw [hw8]; simp [World.setCell]
  have hf8 : Foot (fun i => i = w.heap.size + 1) w7 w8 := by rw [hw8]; exact (Foot.refl _ _).set (.inl rfl)
  rw [← hw8] at hset
  have hr5 := rep_after w8 5 32 (by decide)
  rw [show ((32 : Nat) : Int) = 32 from rfl, hz8, hw8] at hr5
  have HM := Lib.hid (And.intro hset (And.intro hf8 (And.intro hb07 (And.intro hpc1 (And.intro hw8 (And.intro hz8 hb7))))))
  clear hset hl8 hb07 hpc1 hw8 hf8 hb7 hnwl hR7
  go_wp2_with fail
  refine hr5.mono ?_
  rintro e w9 ⟨rfl, hk9, hb9⟩
  have hnwd := new_is (w := w9) (some ⟨w7.heap.size + 1, 0, none⟩) 32 32 fixD (by decide) (by decide) (ints_fixD hk9) false
  have HN := Lib.hid hb9
  clear hk9 hb9 hr5 q3 f3
  go_wp2_with fail
  refine hnwd.mono ?_
  rintro e w10 ⟨hb10, ⟨hne, _⟩ | ⟨_, g2, rfl, hpc2⟩⟩
  · exact absurd fixD_ok hne
  obtain ⟨hset, hf8, hb07, hpc1, hw8, hz8, hb7⟩ := HM.out
  have hb89 : Below w8.heap.size w8 w9 := by
    have h1 := HN.out
    rw [← hw8] at h1
    rw [hz8]; exact h1
  have hb810 : Below w8.heap.size w8 w10 := below_next hb89 (Nat.le_refl _) hb10
  have hR10 := (hb810.block (w.heap.size + 1) (blk_lt hset)).trans hset
  have f4 := blk_free hR10 4
  have q4 : w10.cell? ⟨w.heap.size + 1, 4, none⟩ = some (.pointer none) := blk_cell hR10 4
  have hset11 := blk_set hR10 4 (.pointer (some ⟨g2, 0, none⟩))
  have hf11 : Foot (fun i => i = w.heap.size + 1) w10 (w10.setCell ⟨w.heap.size + 1, 4, none⟩ (.pointer (some ⟨g2, 0, none⟩))) := (Foot.refl _ _).set (.inl rfl)
  have e1 := HE.out.size
  have e2 := hb7.size
  have e3 := hf8.size
  have e4 := hb89.size
  have e5 := hb10.size
  have e6 := HW.out.2.2.1
  have e7 := hf11.size
  have hall : Below w.heap.size w (w10.setCell ⟨w.heap.size + 1, 4, none⟩ (.pointer (some ⟨g2, 0, none⟩))) :=
    (((HW.out.2.1.trans (hb07.mono (by omega))).trans (hf8.below (fun i hi e => by omega) (by omega))).trans (hb810.mono (by omega))).trans (hf11.below (fun i hi e => by omega) (by omega))
  have hSQ : SQ (w10.setCell ⟨w.heap.size + 1, 4, none⟩ (.pointer (some ⟨g2, 0, none⟩))) w.heap.size (w.heap.size + 1) w10.heap.size w.heap.size (fun b => w0.heap.size ≤ b ∧ b < w10.heap.size) g1 g2 ab cb l 0 (fun _ _ _ => none) [] := by
    refine ⟨⟨none, 0, hset11, World.ownsRow_nil _ _ _ _, by simp [Value.ownBlock]⟩, ?_, ?_, ⟨.map [], ?_, fun x y z _ _ _ => ⟨rfl, fun s h => by cases h⟩⟩, HW.out.2.2.2.2.below hall, fun b hb => ⟨hb.2, by omega, by omega⟩, ⟨by omega, by omega, by omega, by omega, by omega⟩, e7⟩
    · refine (hpc1.keep fun b hb => ?_).more fun b hb => ?_
      · exact (hf11.block b (by omega) (by omega)).trans ((hb810.block b (by omega)).trans (hf8.block b hb.2 (by omega)))
      · exact (⟨by omega, by omega⟩ : w0.heap.size ≤ b ∧ b < w10.heap.size)
    · refine (hpc2.more fun b hb => ?_).keep fun b hb => ?_
      · exact (⟨by omega, hb.2⟩ : w0.heap.size ≤ b ∧ b < w10.heap.size)
      · exact hf11.block b hb.2 (by omega)
    · exact ownsMap_blk HW.out.2.2.2.1 ((hf11.block w.heap.size (by omega) (by omega)).trans ((hb810.block w.heap.size (by omega)).trans ((hf8.block w.heap.size (by omega) (by omega)).trans (hb07.block w.heap.size (by omega)))))
  have HQ := Lib.hid (And.intro hSQ hall)
  clear hSQ hall hset11 hf11 hset hf8 hb07 hpc1 hb7 hb89 hb810 hR10 hpc2 hb10 hnwd HN HM HE HW hw8 hz8 e1 e2 e3 e4 e5 e6 e7
  go_wp2_with fail
  go_ret
  exact ⟨_, _, _, _, _, _, rfl, HQ.out⟩
end Go.Proofs.YthfhafnffeijpaaDoor

set_option linter.unusedVariables false
set_option maxRecDepth 100000
namespace Go.Proofs.YthfhafnffeijpaaDoor
open Go.RowKit Go.Maps Go.ChangeMaps

theorem wordL_nine : ∀ s, s < 288 → (nsOf fixL).getD s 0 ≤ 9 := by decide +kernel
theorem wordL_eight : ∀ s, s < 288 → 256 ≤ s → (nsOf fixL).getD s 0 ≤ 8 := by decide +kernel
theorem wordL_seven : ∀ s, s < 280 → 256 ≤ s → (nsOf fixL).getD s 0 = 7 := by decide +kernel
theorem wordD_five : ∀ s, s < 32 → (nsOf fixD).getD s 0 = 5 := by decide +kernel
theorem wB_len (ns : List Nat) (s : Nat) : (wB ns s).length = ns.getD s 0 := by unfold wB; rw [wbits_len]
theorem lenL_bits (L : List Bool) (m : Nat) (hm : m ≤ 255) : (lenL L (m + 3)).length ≤ L.length + 13 ∧ (m = 0 → (lenL L (m + 3)).length ≤ L.length + 7) := by
  unfold lenL
  split
  · rw [List.length_append, wB_len]; have := wordL_eight 285 (by decide) (by decide); omega
  · rename_i hne
    have hb := sprS_bd (v := m + 3 - 3) (size := 2) (n := 6) (by omega)
    rw [putL_le, List.length_append, wB_len]
    have h1 := wordL_eight (257 + (sprS (m + 3 - 3) 2).1) (by omega) (by omega)
    refine ⟨by omega, fun h0 => ?_⟩
    subst h0
    have h2 := wordL_seven (257 + (sprS (0 + 3 - 3) 2).1) (by decide +kernel) (by omega)
    have h3 : (sprS (0 + 3 - 3) 2).2 = 0 := by decide +kernel
    omega
theorem backL_bits (L : List Bool) (m : Nat) (hm : m < 32768) : (backL L (m + 1)).length ≤ L.length + 18 := by
  unfold backL
  have hb := sprS_bd (v := m + 1 - 1) (size := 1) (n := 14) (by omega)
  rw [putL_le, List.length_append, wB_len]
  have h1 := wordD_five (sprS (m + 1 - 1) 1).1 (by omega)
  omega
/-- the bits of what stands from a place on, behind L -/
def goS (l : List Int) : Nat → Nat → (Int → Int → Int → Option Nat) → List Bool → List Bool
  | 0, _, _, L => L
  | n + 1, p, f, L => if p < l.length then goS l n (p + sizeS l f p) (keepN l f p (sizeS l f p)) (stepL l f L p) else L
/-- all bits -/
def bitsS (l : List Int) : List Bool := goS l l.length 0 (fun _ _ _ => none) (putL (putL [] 1 1) 2 1) ++ wB (nsOf fixL) 256
theorem found_is {l : List Int} {f : Int → Int → Int → Option Nat} {p s : Nat} (hfi : FI l f p) (h : foundS l f p = some s) : p + 3 ≤ l.length ∧ s < p ∧ l.getD s 0 = l.getD p 0 ∧ l.getD (s + 1) 0 = l.getD (p + 1) 0 ∧ l.getD (s + 2) 0 = l.getD (p + 2) 0 := by
  unfold foundS at h
  split at h
  · rename_i h3
    obtain ⟨q1, _, q3, q4, q5⟩ := hfi _ _ _ _ h
    exact ⟨h3, q1, q3, q4, q5⟩
  · cases h
theorem found_size {l : List Int} {f : Int → Int → Int → Option Nat} {p s : Nat} (hfi : FI l f p) (h : foundS l f p = some s) : ∃ m, sizeS l f p = m + 3 ∧ alikeS l s p (min 258 (l.length - p)) 0 = m + 3 ∧ m ≤ 255 ∧ p + (m + 3) ≤ l.length := by
  obtain ⟨h3, hs, q3, q4, q5⟩ := found_is hfi h
  have hz3 := alikeS_three (l := l) (p := s) (q := p) (r := min 258 (l.length - p)) (by omega) q3 q4 q5
  have hb := (alikeS_bd l s p (min 258 (l.length - p)) 0).2
  refine ⟨alikeS l s p (min 258 (l.length - p)) 0 - 3, ?_, by omega, by omega, by omega⟩
  unfold sizeS
  rw [h]
  show alikeS l s p (min 258 (l.length - p)) 0 = _
  omega
theorem sizeS_bd {l : List Int} {f : Int → Int → Int → Option Nat} {p : Nat} (hfi : FI l f p) (hp : p < l.length) : 1 ≤ sizeS l f p ∧ p + sizeS l f p ≤ l.length := by
  cases h : foundS l f p with
  | none => unfold sizeS; rw [h]; exact ⟨Nat.le_refl _, by show p + 1 ≤ _; omega⟩
  | some s =>
    obtain ⟨m, h1, _, _, h4⟩ := found_size hfi h
    omega
theorem stepL_none {l : List Int} {f : Int → Int → Int → Option Nat} {p : Nat} (L : List Bool) (h : foundS l f p = none) : stepL l f L p = L ++ wB (nsOf fixL) (l.getD p 0).toNat ∧ sizeS l f p = 1 := by
  unfold stepL sizeS; rw [h]; exact ⟨rfl, rfl⟩
theorem stepL_some {l : List Int} {f : Int → Int → Int → Option Nat} {p s m : Nat} (L : List Bool) (h : foundS l f p = some s) (hm : alikeS l s p (min 258 (l.length - p)) 0 = m + 3) : stepL l f L p = backL (lenL L (m + 3)) (p - s) := by
  unfold stepL; rw [h, ← hm]
theorem stepL_le {l : List Int} (hl : Bytes l) (h32 : l.length ≤ 32768) {f : Int → Int → Int → Option Nat} {p : Nat} (L : List Bool) (hfi : FI l f p) (hp : p < l.length) : (stepL l f L p).length ≤ L.length + 9 * sizeS l f p := by
  cases h : foundS l f p with
  | none =>
    obtain ⟨h1, h2⟩ := stepL_none L h
    rw [h1, h2, List.length_append, wB_len]
    have hb := by_getD hl p
    have := wordL_nine (l.getD p 0).toNat (by omega)
    omega
  | some s =>
    obtain ⟨m, h1, h2, h3, h4⟩ := found_size hfi h
    obtain ⟨_, hs, _⟩ := found_is hfi h
    rw [stepL_some L h h2, h1]
    obtain ⟨d, hd⟩ : ∃ d, p - s = d + 1 := ⟨p - s - 1, by omega⟩
    rw [hd]
    have hb := backL_bits (lenL L (m + 3)) d (by omega)
    obtain ⟨hl1, hl2⟩ := lenL_bits L m h3
    by_cases h0 : m = 0
    · have := hl2 h0; omega
    · omega
theorem FI_none (l : List Int) : FI l (fun _ _ _ => none) 0 := fun x y z s h => by cases h
/-- what All answers -/
def AllQ (w : World) (l : List Int) (e : Ending) (w' : World) : Prop :=
  Below w.heap.size w w' ∧ ((32768 < l.length ∧ e = .returned (.tuple #[.slice none 0 0, .int .i64 8])) ∨ (l.length ≤ 32768 ∧ ∃ a c, e = .returned (.tuple #[.slice a (pk (bitsS l)).length c, .int .i64 0]) ∧ w'.ownsRow w.heap.size 5 1 (.slice a (pk (bitsS l)).length c) (pk (bitsS l)).length ((pk (bitsS l)).map (Value.int .u8))))
set_option maxHeartbeats 2000000 in
theorem sqAll (w : World) (a : Option Addr) (nb cb : Nat) (l : List Int) (hn : l.length = nb) (hc : nb ≤ cb) (hm : nb ≤ 140737488355328) (hb : Bs w w.heap.size a l) :
    Calls Tryd.prog 15 #[.slice a nb cb] w (AllQ w l) := by
  subst hn
  by_cases hbig : 32768 < l.length
  · clear hb
    go_enter Tryd.func15, Tryd.ntmps15
    go_wp2_with fail
    go_ret2
    exact ⟨Below.refl _ _, .inl ⟨hbig, rfl⟩⟩
  · have h32 : l.length ≤ 32768 := by omega
    have hfr := sqFresh w a l.length cb l rfl hb
    have HB := Lib.hid hb.1
    clear hb hm hbig
    go_enter Tryd.func15, Tryd.ntmps15
    go_wp2_with fail
    refine hfr.mono ?_
    rintro e w1 ⟨g, base, mb, gl, gd, F, rfl, h1, hb1⟩
    have hput := sqPut h1 1 (by decide) 1 (by decide) (by simp)
    rw [show ((1 : Nat) : Int) = 1 from rfl] at hput
    have H1 := Lib.hid (And.intro hb1 h1)
    clear hfr hb1 h1
    go_wp2_with fail
    refine hput.mono ?_
    rintro e w2 ⟨rfl, h2, hf2⟩
    have H2 := Lib.hid (And.intro (H1.out.1.trans (sf_low H1.out.2 hf2)) h2)
    clear hput hf2 H1
    have hput := sqPut h2 2 (by decide) 1 (by decide) (by rw [putL_le]; simp)
    rw [show ((2 : Nat) : Int) = 2 from rfl] at hput
    clear h2
    go_wp2_with fail
    refine hput.mono ?_
    rintro e w3 ⟨rfl, h3, hf3⟩
    have H3 : Hid (SQ w3 w.heap.size g base mb F gl gd a cb l 0 (fun _ _ _ => none) (putL (putL [] 1 1) 2 1) ∧ Below w.heap.size w w3) := Lib.hid ⟨h3, H2.out.1.trans (sf_low H2.out.2 hf3)⟩
    clear hput h3 hf3 H2
    go_wp2_with fail
    go_loopw [5] (fun v wr => ∃ (p n k' : Nat) (f : Int → Int → Int → Option Nat) (L : List Bool), p ≤ l.length ∧ v = .int .i64 p ∧ Hid (l.length ≤ p + n ∧ k' ≤ p ∧ L.length ≤ 3 + 9 * p ∧ FI l f p ∧ goS l n p f L ++ wB (nsOf fixL) 256 = bitsS l ∧ SQ wr w.heap.size g base mb F gl gd a cb l k' f L ∧ Below w.heap.size w wr)) (fun v _ => l.length - (intOf v).toNat)
    case atStart => exact ⟨0, l.length, 0, (fun _ _ _ => none), putL (putL [] 1 1) 2 1, Nat.zero_le _, rfl, Lib.hid ⟨by omega, Nat.le_refl _, by rw [putL_le, putL_le]; simp, FI_none l, rfl, H3.out.1, H3.out.2⟩⟩
    case round =>
      clear H3
      obtain ⟨p, n, k', f, L, hp, rfl, HQ⟩ := hrel
      by_cases hlt : p < l.length
      · obtain ⟨q1, q2, q3, q4, q5, q6, q7⟩ := HQ.out
        obtain ⟨s1, s2⟩ := sizeS_bd q4 hlt
        have q8 := stepL_le HB.out h32 L q4 hlt
        have hnx := sqNext q6 hc p q4 hlt h32 (by omega) (by omega)
        obtain ⟨m, rfl⟩ : ∃ m, n = m + 1 := ⟨n - 1, by omega⟩
        rw [goS, if_pos hlt] at q5
        have q9 := q4.keepN (sizeS l f p)
        generalize sizeS l f p = Z at *
        generalize stepL l f L p = L2 at *
        generalize keepN l f p Z = f2 at *
        have HW := Lib.hid (And.intro q6 (And.intro q7 (And.intro q1 (And.intro q2 (And.intro q3 (And.intro q5 (And.intro q8 q9)))))))
        clear q1 q2 q3 q4 q5 q6 q7 q8 q9 HQ
        go_wp2_with fail
        refine hnx.mono ?_
        rintro e w5 ⟨rfl, ⟨k2, hk2, h5⟩, hf5⟩
        obtain ⟨q6, q7, q1, q2, q3, q5, q8, q9⟩ := HW.out
        have H5 : Hid (l.length ≤ p + Z + m ∧ k2 ≤ p + Z ∧ L2.length ≤ 3 + 9 * (p + Z) ∧ FI l f2 (p + Z) ∧ goS l m (p + Z) f2 L2 ++ wB (nsOf fixL) 256 = bitsS l ∧ SQ w5 w.heap.size g base mb F gl gd a cb l k2 f2 L2 ∧ Below w.heap.size w w5) := Lib.hid ⟨by omega, by omega, by omega, q9, q5, h5, q7.trans (sf_low q6 hf5)⟩
        clear q1 q2 q3 q5 q6 q7 q8 q9 HW hnx hk2 h5 hf5
        go_wp2_with fail
        go_roundw
        case rel => exact ⟨p + Z, m, k2, f2, L2, s2, by go_num, H5⟩
        case measure => simp [intOf]; omega
      · obtain ⟨q1, q2, q3, q4, q5, q6, q7⟩ := HQ.out
        have hpl : p = l.length := by omega
        have hgo : L ++ wB (nsOf fixL) 256 = bitsS l := by
          rw [← q5]
          cases n with
          | zero => rw [goS]
          | succ n => rw [goS, if_neg hlt]
        have hwd := sqLit q6 (S := 256) (by decide) (by omega)
        have hbits : (bitsS l).length ≤ 300000 := by rw [← hgo, List.length_append]; have := wB_le fixL_all 256; omega
        rw [hgo, show ((256 : Nat) : Int) = 256 from rfl] at hwd
        have c3 := q6.c3
        have HW := Lib.hid (And.intro q6 q7)
        clear q1 q2 q3 q4 q5 q6 q7 HQ
        subst hpl
        go_wp2_with fail
        refine hwd.mono ?_
        rintro e w5 ⟨rfl, h5, hf5⟩
        obtain ⟨aw, cw, hwt⟩ := h5.wt
        have hby := wrBytes hwt (pk_bytes _) (by rw [pk_len]; omega)
        have H5 := Lib.hid (And.intro h5 (HW.out.2.trans (sf_low HW.out.1 hf5)))
        clear hwd h5 hf5 hwt HW c3
        go_wp2_with fail
        refine hby.mono ?_
        rintro e w6 ⟨a2, c2, rfl, ho, hb6⟩
        have H6 := Lib.hid (And.intro (below_next H5.out.2 (Nat.le_refl _) hb6) ho)
        clear hby ho hb6
        go_wp2_with fail
        go_ret2
        exact ⟨H6.out.1, .inr ⟨h32, a2, c2, rfl, own_base H6.out.2 H5.out.2.size⟩⟩
end Go.Proofs.YthfhafnffeijpaaDoor

set_option linter.unusedVariables false
set_option maxRecDepth 100000
namespace Go.Proofs.YthfhafnffeijpaaDoor
open Go.RowKit

theorem takeS_put (A C : List Bool) (n : Nat) (v : Int) : takeS (pk (putL A n v ++ C)) A.length n = .ok (v % 2 ^ n, A.length + n) := by
  unfold takeS
  rw [if_pos (by rw [pk_len, List.length_append, putL_len]; omega), tk_pk, mod_bsum]
  congr 2
  refine bsum_congr n fun i hi => ?_
  unfold putL
  rw [bitL_mid _ _ _ (by simpa using hi)]
  unfold bitL
  have h := bitAt_bd v i
  simp only [List.getD_eq_getElem?_getD, List.getElem?_map, List.getElem?_range hi, Option.map_some, Option.getD_some, decide_eq_true_eq]
  by_cases e : bitAt v i = 1
  · rw [if_pos e, e]
  · rw [if_neg e]; omega
theorem nxS_word {ns : List Nat} (hall : ∀ n ∈ ns, n ≤ 15) (hk : kraft ns ≤ 2 ^ 15) {s : Nat} (hs : s < ns.length) (h0 : 1 ≤ ns.getD s 0) (A C : List Bool) : nxS ns (pk (A ++ wB ns s ++ C)) A.length = .ok ((s : Int), (A ++ wB ns s).length) := by
  have hb := pword_bound hall hk hs h0
  have hw : wd (pk (A ++ wB ns s ++ C)) A.length (ns.getD s 0) = pword ns s := by
    unfold wB
    rw [wd_bits _ _ _ _ _ (Nat.le_refl _), Nat.sub_self, Nat.pow_zero, Nat.div_one, Nat.mod_eq_of_lt hb]
  have hx := nxt_word hall hs h0 hw (by rw [pk_len, List.length_append, List.length_append, wB_len]; omega)
  unfold nxS
  rw [hx, List.length_append, wB_len]
  rfl
theorem nxS_lit {s : Nat} (hs : s < 288) (A C : List Bool) : nxS (nsOf fixL) (pk (A ++ wB (nsOf fixL) s ++ C)) A.length = .ok ((s : Int), (A ++ wB (nsOf fixL) s).length) :=
  nxS_word fixL_all fixL_kraft (by rw [fixL_len]; exact hs) (fixL_pos s hs) A C
theorem nxS_dis {s : Nat} (hs : s < 32) (A C : List Bool) : nxS (nsOf fixD) (pk (A ++ wB (nsOf fixD) s ++ C)) A.length = .ok ((s : Int), (A ++ wB (nsOf fixD) s).length) :=
  nxS_word fixD_all fixD_kraft (by rw [fixD_len]; exact hs) (fixD_pos s hs) A C
theorem tab_len : ∀ m, m < 255 → moreL (sprS m 2).1 = (sprS m 2).2 ∧ leastL (sprS m 2).1 + m % 2 ^ (sprS m 2).2 = m + 3 ∧ (sprS m 2).1 < 28 := by decide +kernel
theorem tab_dis0 : ∀ a, a < 128 → ∀ b, b < 256 → moreD (sprS (256 * a + b) 1).1 = (sprS (256 * a + b) 1).2 ∧ leastD (sprS (256 * a + b) 1).1 + (256 * a + b) % 2 ^ (sprS (256 * a + b) 1).2 = 256 * a + b + 1 ∧ (sprS (256 * a + b) 1).1 < 30 := by decide +kernel
theorem tab_dis (m : Nat) (h : m < 32768) : moreD (sprS m 1).1 = (sprS m 1).2 ∧ leastD (sprS m 1).1 + m % 2 ^ (sprS m 1).2 = m + 1 ∧ (sprS m 1).1 < 30 := by
  have := tab_dis0 (m / 256) (by omega) (m % 256) (by omega)
  rwa [show 256 * (m / 256) + m % 256 = m by omega] at this
theorem modN_cast (m n : Nat) : (m : Int) % 2 ^ n = ((m % 2 ^ n : Nat) : Int) := by rw [pow_cast, Int.natCast_emod]
/-- a told length is read -/
theorem len_back (A C : List Bool) (m : Nat) (hm : m ≤ 255) : ∃ sy p1, 256 < sy ∧ nxS (nsOf fixL) (pk (lenL A (m + 3) ++ C)) A.length = .ok (sy, p1) ∧ lenS (pk (lenL A (m + 3) ++ C)) p1 sy = .ok (((m + 3 : Nat) : Int), (lenL A (m + 3)).length) := by
  by_cases h : m = 255
  · subst h
    refine ⟨285, (A ++ wB (nsOf fixL) 285).length, by decide, nxS_lit (s := 285) (by decide) A C, ?_⟩
    unfold lenS
    rw [if_neg (by decide), if_pos rfl]
    rfl
  · obtain ⟨t1, t2, t3⟩ := tab_len m (by omega)
    have e : lenL A (m + 3) = putL (A ++ wB (nsOf fixL) (257 + (sprS m 2).1)) (sprS m 2).2 (m : Int) := by unfold lenL; rw [if_neg (by omega), Nat.add_sub_cancel]
    rw [e]
    generalize (sprS m 2).1 = R1 at *
    generalize (sprS m 2).2 = R2 at *
    refine ⟨((257 + R1 : Nat) : Int), (A ++ wB (nsOf fixL) (257 + R1)).length, by omega, ?_, ?_⟩
    · have := nxS_lit (s := 257 + R1) (by omega) A (((List.range R2).map fun i => decide (bitAt (m : Int) i = 1)) ++ C)
      rw [← List.append_assoc] at this
      exact this
    · unfold lenS
      rw [if_neg (by omega), if_neg (by omega), show (((257 + R1 : Nat) : Int) - 257).toNat = R1 by omega, t1, takeS_put]
      simp only [bind, Except.bind]
      rw [modN_cast, putL_len]
      congr 2
      omega
/-- a told distance is read -/
theorem dis_back (A C : List Bool) (m : Nat) (hm : m < 32768) : disS (nsOf fixD) (pk (backL A (m + 1) ++ C)) A.length = .ok (((m + 1 : Nat) : Int), (backL A (m + 1)).length) := by
  obtain ⟨t1, t2, t3⟩ := tab_dis m hm
  have e : backL A (m + 1) = putL (A ++ wB (nsOf fixD) (sprS m 1).1) (sprS m 1).2 (m : Int) := by unfold backL; rw [Nat.add_sub_cancel]
  rw [e]
  generalize (sprS m 1).1 = R1 at *
  generalize (sprS m 1).2 = R2 at *
  have hx : nxS (nsOf fixD) (pk (putL (A ++ wB (nsOf fixD) R1) R2 (m : Int) ++ C)) A.length = .ok ((R1 : Int), (A ++ wB (nsOf fixD) R1).length) := by
    have := nxS_dis (s := R1) (by omega) A (((List.range R2).map fun i => decide (bitAt (m : Int) i = 1)) ++ C)
    rw [← List.append_assoc] at this
    exact this
  unfold disS
  rw [hx]
  simp only [bind, Except.bind]
  rw [if_neg (by omega), Int.toNat_natCast, t1, takeS_put]
  simp only
  rw [modN_cast, putL_len]
  congr 2
  omega
theorem alikeS_eq {l : List Int} {p q : Nat} : ∀ {r n : Nat}, ∀ i, n ≤ i → i < alikeS l p q r n → l.getD (p + i) 0 = l.getD (q + i) 0
  | 0, n, i, h1, h2 => by unfold alikeS at h2; omega
  | r + 1, n, i, h1, h2 => by
    unfold alikeS at h2
    split at h2
    · rename_i he
      by_cases hi : i = n
      · subst hi; exact he
      · exact alikeS_eq i (by omega) h2
    · omega
theorem take_snoc {l : List Int} {p : Nat} (hp : p < l.length) : l.take (p + 1) = l.take p ++ [l.getD p 0] := by
  rw [List.take_succ_eq_append_getElem hp, List.getD_eq_getElem?_getD, List.getElem?_eq_getElem hp]; rfl
theorem copy_alike {l : List Int} {d : Nat} (hd : 1 ≤ d) : ∀ (n p : Nat), d ≤ p → p + n ≤ l.length → (∀ i, i < n → l.getD (p + i - d) 0 = l.getD (p + i) 0) → copyN (l.take p) d n = l.take (p + n)
  | 0, p, _, _, _ => rfl
  | n + 1, p, h1, h2, h3 => by
    have hlen : (l.take p).length = p := by rw [List.length_take]; omega
    have hg : (l.take p).getD (p - d) 0 = l.getD p 0 := by
      rw [List.getD_eq_getElem?_getD, List.getElem?_take_of_lt (by omega), ← List.getD_eq_getElem?_getD]
      simpa using h3 0 (by omega)
    rw [copyN, hlen, hg, ← take_snoc (by omega), copy_alike hd n (p + 1) (by omega) (by omega) (fun i hi => by
      have := h3 (i + 1) (by omega)
      rw [show p + 1 + i = p + (i + 1) by omega]
      exact this), show p + 1 + n = p + (n + 1) by omega]
theorem stepL_ext (l : List Int) (f : Int → Int → Int → Option Nat) (L : List Bool) (p : Nat) : ∃ X, stepL l f L p = L ++ X := by
  unfold stepL
  cases foundS l f p with
  | none => exact ⟨_, rfl⟩
  | some s =>
    simp only
    unfold backL lenL putL
    split
    · exact ⟨_, by rw [List.append_assoc, List.append_assoc]⟩
    · exact ⟨_, by rw [List.append_assoc, List.append_assoc, List.append_assoc]⟩
theorem goS_ext (l : List Int) : ∀ (n p : Nat) (f : Int → Int → Int → Option Nat) (L : List Bool), ∃ X, goS l n p f L = L ++ X
  | 0, p, f, L => ⟨[], by simp [goS]⟩
  | n + 1, p, f, L => by
    rw [goS]
    split
    · obtain ⟨X, hX⟩ := stepL_ext l f L p
      obtain ⟨Y, hY⟩ := goS_ext l n (p + sizeS l f p) (keepN l f p (sizeS l f p)) (stepL l f L p)
      exact ⟨X ++ Y, by rw [hY, hX, List.append_assoc]⟩
    · exact ⟨[], by simp⟩
/-- one step is read -/
theorem step_back {l : List Int} (hl : Bytes l) (h32 : l.length ≤ 32768) {f : Int → Int → Int → Option Nat} {p : Nat} (hfi : FI l f p) (hp : p < l.length) (L C : List Bool) :
    symS (nsOf fixL) (nsOf fixD) (pk (stepL l f L p ++ C)) l.length L.length (l.take p) = .ok ((stepL l f L p).length, some (l.take (p + sizeS l f p))) ∧ L.length < (stepL l f L p).length := by
  have hlen : (l.take p).length = p := by rw [List.length_take]; omega
  cases h : foundS l f p with
  | none =>
    obtain ⟨h1, h2⟩ := stepL_none L h
    have hb := by_getD hl p
    have hx := nxS_lit (s := (l.getD p 0).toNat) (by omega) L C
    rw [h1, h2, symS_lit hx (by omega), if_neg (by omega), take_snoc hp]
    refine ⟨by rw [show (((l.getD p 0).toNat : Nat) : Int) = l.getD p 0 by omega], ?_⟩
    rw [List.length_append, wB_len]
    have := fixL_pos (l.getD p 0).toNat (by omega)
    omega
  | some s =>
    obtain ⟨m, h1, h2, h3, h4⟩ := found_size hfi h
    obtain ⟨_, hs, _⟩ := found_is hfi h
    obtain ⟨d, hd⟩ : ∃ d, p - s = d + 1 := ⟨p - s - 1, by omega⟩
    rw [stepL_some L h h2, h1, hd]
    obtain ⟨X, hX⟩ : ∃ X, backL (lenL L (m + 3)) (d + 1) = lenL L (m + 3) ++ X := by
      unfold backL putL
      exact ⟨_, by rw [List.append_assoc]⟩
    obtain ⟨sy, p1, hsy, hx, hle⟩ := len_back L (X ++ C) m h3
    rw [← List.append_assoc, ← hX] at hx hle
    have hdi := dis_back (lenL L (m + 3)) C d (by omega)
    rw [symS_cop hx hsy, copS_is, hle]
    simp only
    rw [hdi]
    simp only
    rw [if_neg (by omega), if_neg (by omega), Int.toNat_natCast, Int.toNat_natCast]
    rw [copy_alike (l := l) (d := d + 1) (by omega) (m + 3) p (by omega) h4 (fun i hi => by
      have := alikeS_eq (l := l) (p := s) (q := p) (r := min 258 (l.length - p)) (n := 0) i (Nat.zero_le _) (by omega)
      rw [← this]; congr 1; omega)]
    refine ⟨rfl, ?_⟩
    have hX2 := congrArg List.length hX
    rw [List.length_append] at hX2
    have hle2 : L.length < (lenL L (m + 3)).length := by
      unfold lenL
      split
      · rw [List.length_append, wB_len]; have := fixL_pos 285 (by decide); omega
      · rename_i hne
        have ht := (tab_len m (by omega)).2.2
        rw [Nat.add_sub_cancel, putL_len, List.length_append, wB_len]; have := fixL_pos (257 + (sprS m 2).1) (by omega); omega
    omega
/-- all steps are read -/
theorem go_back {l : List Int} (hl : Bytes l) (h32 : l.length ≤ 32768) : ∀ (n p : Nat) (f : Int → Int → Int → Option Nat) (L : List Bool) (B : List Bool) (u : Nat), FI l f p → p ≤ l.length → l.length ≤ p + n →
    goS l n p f L ++ wB (nsOf fixL) 256 = B → B.length ≤ L.length + u → symsS (nsOf fixL) (nsOf fixD) (pk B) l.length u L.length (l.take p) = .ok (B.length, l) := by
  have hend : ∀ (p : Nat) (L B : List Bool) (u : Nat), l.length ≤ p → L ++ wB (nsOf fixL) 256 = B → B.length ≤ L.length + u → symsS (nsOf fixL) (nsOf fixD) (pk B) l.length u L.length (l.take p) = .ok (B.length, l) := fun p L B u hp hB hu => by
    have hx := nxS_lit (s := 256) (by decide) L []
    rw [List.append_nil] at hx
    rw [← hB, List.length_append, wB_len] at hu
    have := fixL_pos 256 (by decide)
    obtain ⟨v, rfl⟩ : ∃ v, u = v + 1 := ⟨u - 1, by omega⟩
    rw [symsS, ← hB, symS_end hx, List.take_of_length_le hp]
  intro n
  induction n with
  | zero => intro p f L B u hfi hp hn hB hu; exact hend p L B u (by omega) hB hu
  | succ n ih =>
    intro p f L B u hfi hp hn hB hu
    rw [goS] at hB
    by_cases hlt : p < l.length
    · rw [if_pos hlt] at hB
      obtain ⟨X, hX⟩ := goS_ext l n (p + sizeS l f p) (keepN l f p (sizeS l f p)) (stepL l f L p)
      obtain ⟨s1, s2⟩ := sizeS_bd hfi hlt
      obtain ⟨b1, b2⟩ := step_back hl h32 hfi hlt L (X ++ wB (nsOf fixL) 256)
      have hB2 : stepL l f L p ++ (X ++ wB (nsOf fixL) 256) = B := by rw [← List.append_assoc, ← hX]; exact hB
      have hBl := congrArg List.length hB2
      rw [List.length_append] at hBl
      rw [hB2] at b1
      obtain ⟨v, rfl⟩ : ∃ v, u = v + 1 := ⟨u - 1, by omega⟩
      rw [symsS, b1]
      exact ih _ _ _ B v (hfi.keepN _) s2 (by omega) hB (by omega)
    · rw [if_neg hlt] at hB
      exact hend p L B u (by omega) hB hu
/-- what is squeezed comes back -/
theorem squeeze_back {l : List Int} (hl : Bytes l) (h32 : l.length ≤ 32768) : inflS (pk (bitsS l)) (l.length : Int) = .ok (l, (pk (bitsS l)).length) := by
  obtain ⟨X, hX⟩ := goS_ext l l.length 0 (fun _ _ _ => none) (putL (putL [] 1 1) 2 1)
  have hB : bitsS l = putL (putL [] 1 1) 2 1 ++ (X ++ wB (nsOf fixL) 256) := by unfold bitsS; rw [hX, List.append_assoc]
  have h1 : takeS (pk (bitsS l)) 0 1 = .ok (1, 1) := by
    have := takeS_put [] (((List.range 2).map fun i => decide (bitAt 1 i = 1)) ++ (X ++ wB (nsOf fixL) 256)) 1 1
    rw [← List.append_assoc] at this
    rw [hB]; exact this
  have h2 : takeS (pk (bitsS l)) 1 2 = .ok (1, 3) := by
    have := takeS_put (putL [] 1 1) (X ++ wB (nsOf fixL) 256) 2 1
    rw [hB]; exact this
  have h3 := go_back hl h32 l.length 0 (fun _ _ _ => none) (putL (putL [] 1 1) 2 1) (bitsS l) (8 * (pk (bitsS l)).length + 1 - 3) (FI_none l) (Nat.zero_le _) (by omega) rfl (by rw [pk_len, putL_len, putL_len, List.length_nil]; omega)
  have h4 : blockS (pk (bitsS l)) l.length 0 [] = .ok (true, (bitsS l).length, l) := by
    unfold blockS
    rw [h1]
    simp only [bind, Except.bind]
    rw [h2]
    simp only [if_pos]
    rw [if_neg (by decide)]
    rw [show symsS (nsOf fixL) (nsOf fixD) (pk (bitsS l)) l.length (8 * (pk (bitsS l)).length + 1 - 3) 3 [] = .ok ((bitsS l).length, l) from h3]
    rfl
  unfold inflS
  rw [if_neg (by omega), Int.toNat_natCast, blocksS, h4]
  simp only
  rw [pk_len]
/-- how many bits -/
theorem go_most {l : List Int} (hl : Bytes l) (h32 : l.length ≤ 32768) : ∀ (n p : Nat) (f : Int → Int → Int → Option Nat) (L : List Bool), FI l f p → p ≤ l.length → (goS l n p f L).length ≤ L.length + 9 * (l.length - p) := by
  intro n
  induction n with
  | zero => intro p f L _ _; rw [goS]; omega
  | succ n ih =>
    intro p f L hfi hp
    rw [goS]
    split
    · rename_i hlt
      obtain ⟨s1, s2⟩ := sizeS_bd hfi hlt
      have h1 := stepL_le hl h32 L hfi hlt
      have h2 := ih (p + sizeS l f p) (keepN l f p (sizeS l f p)) (stepL l f L p) (hfi.keepN _) s2
      omega
    · omega
theorem bits_most {l : List Int} (hl : Bytes l) (h32 : l.length ≤ 32768) : (pk (bitsS l)).length ≤ (9 * l.length + 17) / 8 ∧ 1 ≤ (pk (bitsS l)).length := by
  have h1 := go_most hl h32 l.length 0 (fun _ _ _ => none) (putL (putL [] 1 1) 2 1) (FI_none l) (Nat.zero_le _)
  have h2 := wordL_seven 256 (by decide) (by decide)
  rw [putL_len, putL_len, List.length_nil] at h1
  rw [pk_len]
  unfold bitsS
  rw [List.length_append, wB_len, h2]
  omega
/-- bytes that are all one -/
def RowF (l : List Int) (f : Int → Int → Int → Option Nat) : Prop := ∀ p, p + 3 ≤ l.length → foundS l f p ≠ none
theorem put3_some {f : Int → Int → Int → Option Nat} {a b c : Int} (h : f a b c ≠ none) (x y z : Int) (s : Nat) : put3 f x y z s a b c ≠ none := by
  unfold put3; split
  · exact fun h => by cases h
  · exact h
theorem RowF.keep {l : List Int} {f : Int → Int → Int → Option Nat} (h : RowF l f) (p : Nat) : RowF l (keepF l f p) := fun q hq => by
  have := h q hq
  unfold foundS at this ⊢
  rw [if_pos hq] at this ⊢
  unfold keepF
  split
  · exact put3_some this _ _ _ _
  · exact this
theorem RowF.keepN {l : List Int} {f : Int → Int → Int → Option Nat} (h : RowF l f) (p : Nat) : ∀ n, RowF l (keepN l f p n)
  | 0 => h
  | n + 1 => (RowF.keepN h p n).keep _
theorem rep_getD (x : Int) {n i : Nat} (h : i < n) : (List.replicate n x).getD i 0 = x := by
  rw [List.getD_eq_getElem?_getD, List.getElem?_replicate, if_pos h]; rfl
theorem alike_rep (x : Int) (N p q : Nat) : ∀ r n, p + n + r ≤ N → q + n + r ≤ N → alikeS (List.replicate N x) p q r n = n + r
  | 0, n, _, _ => rfl
  | r + 1, n, h1, h2 => by
    unfold alikeS
    rw [rep_getD x (by omega), rep_getD x (by omega), if_pos rfl, alike_rep x N p q r (n + 1) (by omega) (by omega)]
    omega
theorem go_row (x : Int) (hx : 0 ≤ x ∧ x ≤ 255) (N : Nat) (h32 : N ≤ 32768) : ∀ (n p : Nat) (f : Int → Int → Int → Option Nat) (L : List Bool), FI (List.replicate N x) f p → RowF (List.replicate N x) f → p ≤ N → (goS (List.replicate N x) n p f L).length ≤ L.length + 31 * ((N - p + 257) / 258) := by
  have hlen : (List.replicate N x).length = N := List.length_replicate
  have hl : Bytes (List.replicate N x) := fun y hy => by rw [List.eq_of_mem_replicate hy]; exact hx
  intro n
  induction n with
  | zero => intro p f L _ _ _; rw [goS]; omega
  | succ n ih =>
    intro p f L hfi hrf hp
    rw [goS]
    split
    · rename_i hlt
      rw [hlen] at hlt
      obtain ⟨s1, s2⟩ := sizeS_bd hfi (by rw [hlen]; exact hlt)
      rw [hlen] at s2
      have h1 := stepL_le hl (by rw [hlen]; exact h32) L hfi (by rw [hlen]; exact hlt)
      have h2 := ih (p + sizeS (List.replicate N x) f p) (keepN (List.replicate N x) f p (sizeS (List.replicate N x) f p)) (stepL (List.replicate N x) f L p) (hfi.keepN _) (hrf.keepN _ _) s2
      by_cases h3 : p + 3 ≤ N
      · cases hf : foundS (List.replicate N x) f p with
        | none => exact absurd hf (hrf p (by rw [hlen]; exact h3))
        | some s =>
          obtain ⟨m, e1, e2, e3, e4⟩ := found_size hfi hf
          obtain ⟨_, hs, _⟩ := found_is hfi hf
          have hst := stepL_some L hf e2
          have hal := alike_rep x N s p (min 258 (N - p)) 0 (by omega) (by omega)
          rw [hlen, hal] at e2
          obtain ⟨d, hd⟩ : ∃ d, p - s = d + 1 := ⟨p - s - 1, by omega⟩
          rw [hd] at hst
          have b1 := backL_bits (lenL L (m + 3)) d (by omega)
          have b2 := (lenL_bits L m e3).1
          rw [← hst] at b1
          rw [e1] at h2 s2 ⊢
          have b3 : (stepL (List.replicate N x) f L p).length ≤ L.length + 31 := by omega
          generalize stepL (List.replicate N x) f L p = L2 at *
          omega
      · -- what is left is shorter than a copy: bytes one by one
        have h4 := go_most hl (by rw [hlen]; exact h32) (n + 1) p f L hfi (by rw [hlen]; exact hp)
        rw [hlen, goS, if_pos (by rw [hlen]; exact hlt)] at h4
        omega
    · omega
theorem bits_row (x : Int) (hx : 0 ≤ x ∧ x ≤ 255) (N : Nat) (h32 : N ≤ 32768) : (pk (bitsS (List.replicate N x))).length ≤ 8 + N / 64 := by
  have hlen : (List.replicate N x).length = N := List.length_replicate
  have hl : Bytes (List.replicate N x) := fun y hy => by rw [List.eq_of_mem_replicate hy]; exact hx
  by_cases h3 : N ≤ 3
  · have := (bits_most hl (by rw [hlen]; exact h32)).1
    rw [hlen] at this
    omega
  · obtain ⟨M, rfl⟩ : ∃ M, N = M + 1 := ⟨N - 1, by omega⟩
    have hfo : foundS (List.replicate (M + 1) x) (fun _ _ _ => none) 0 = none := by unfold foundS; split <;> rfl
    obtain ⟨e1, e2⟩ := stepL_none (putL (putL [] 1 1) 2 1) hfo
    have h03 : 0 + 3 ≤ (List.replicate (M + 1) x).length := by rw [hlen]; omega
    have hk : keepN (List.replicate (M + 1) x) (fun _ _ _ => none) 0 1 = put3 (fun _ _ _ => none) x x x 0 := by
      show keepF (List.replicate (M + 1) x) (fun _ _ _ => none) 0 = _
      unfold keepF
      rw [if_pos h03, rep_getD x (by omega), rep_getD x (by omega), rep_getD x (by omega)]
    have hrow : RowF (List.replicate (M + 1) x) (keepN (List.replicate (M + 1) x) (fun _ _ _ => none) 0 1) := fun q hq => by
      rw [hk]
      rw [hlen] at hq
      unfold foundS
      rw [if_pos (by rw [hlen]; exact hq)]
      unfold put3
      rw [rep_getD x (by omega), rep_getD x (by omega), rep_getD x (by omega), if_pos ⟨rfl, rfl, rfl⟩]
      exact fun h => by cases h
    have hgo := go_row x hx (M + 1) h32 M 1 (keepN (List.replicate (M + 1) x) (fun _ _ _ => none) 0 1) (putL (putL [] 1 1) 2 1 ++ wB (nsOf fixL) ((List.replicate (M + 1) x).getD 0 0).toNat) ((FI_none _).keepN 1) hrow (by omega)
    have hw := wordL_nine ((List.replicate (M + 1) x).getD 0 0).toNat (by rw [rep_getD x (by omega)]; omega)
    have he := wordL_seven 256 (by decide) (by decide)
    rw [List.length_append, wB_len, putL_len, putL_len, List.length_nil] at hgo
    rw [pk_len]
    unfold bitsS
    rw [List.length_append, wB_len, he, hlen, goS, if_pos (by rw [hlen]; omega), e1, e2, Nat.zero_add]
    omega
/-- two rows that are squeezed to the same are the same -/
theorem bits_apart {a b : List Int} (ha : Bytes a) (hb : Bytes b) (la : a.length ≤ 32768) (lb : b.length ≤ 32768) (h : pk (bitsS a) = pk (bitsS b)) : a = b := by
  have h1 := squeeze_back ha la
  have h2 := squeeze_back hb lb
  rw [← h] at h2
  rcases Nat.le_total a.length b.length with hle | hle
  · rcases inflS_lim (pk (bitsS a)) hle lb with e | ⟨e, _⟩
    · rw [h1, h2] at e; injection e with e; injection e
    · rw [h1] at e; cases e
  · rcases inflS_lim (pk (bitsS a)) hle la with e | ⟨e, _⟩
    · rw [h1, h2] at e; injection e with e; injection e with e; exact e.symm
    · rw [h2] at e; cases e
end Go.Proofs.YthfhafnffeijpaaDoor
