/- How rows of bytes, structs behind pointers and blocks of the call's own are kept in a world: words that every layer uses. No condition. A piece of a slice of bytes, whether it is nil or not, and wherever it is cut: the operation's run and what the piece reads as. No condition. Bits of bytes as plain mathematics: the number of some bits, bytes made of bits. No condition; no program is named. -/
import Derived.Test.YtbeekjfjfcaobaaDoorMem
import Derived.Test.YtbeekjfjfcaobaaDoorNum
import Derived.Test.YtbeekjfjfcaobaaDoorRows
import Derived.Deep.QuietTactic
import Derived.BigQuiet
import Derived.WalkSpells
import Derived.OneCell
import Derived.Laws.Rows
import Derived.Deep.OwnRows
import Derived.Laws.AppendOwnNone
import Derived.RegionTactic
import Derived.Deep.RegionHeld3
import Derived.Deep.RegionLaw
set_option linter.unusedVariables false
set_option maxRecDepth 100000
namespace Go.Proofs.YtbeekjfjfcaobaaDoor
open Go.RowKit

theorem ret1 {a c : Int} {k : IntKind} (h1 : a = c) : Ending.returned (.int k a) = .returned (.int k c) := by rw [h1]
theorem retb {a c : Bool} (h1 : a = c) : Ending.returned (.bool a) = .returned (.bool c) := by rw [h1]
/-- only block g, and what is new, has turned -/
abbrev Only (g : Nat) (w w' : World) : Prop := w.grownBy w' (some g)
theorem only_refl (g : Nat) (w : World) : Only g w w := ⟨rfl, rfl, rfl, Nat.le_refl _, fun _ _ _ => rfl⟩
theorem only_trans {g : Nat} {a b c : World} (h : Only g a b) (k : Only g b c) : Only g a c :=
  ⟨k.os.trans h.os, k.tape.trans h.tape, k.output.trans h.output, Nat.le_trans h.size k.size, fun i hi hne => (k.block i (Nat.lt_of_lt_of_le hi h.size) hne).trans (h.block i hi hne)⟩
theorem only_drewN {g : Nat} {a w : World} (h : Only g a w) (n : Nat) : Only g a (w.drewN n) := ⟨h.os, h.tape, h.output, h.size, h.block⟩
theorem only_set {g : Nat} {a w : World} (h : Only g a w) (o : Nat) (u : Value) : Only g a (w.setCell ⟨g, o, none⟩ u) :=
  ⟨h.os, h.tape, h.output, by simpa [World.setCell] using h.size, fun i hi hne => (Below.heap_setCell w ⟨g, o, none⟩ u i (by rintro rfl; exact hne rfl)).trans (h.block i hi hne)⟩
theorem only_below {g : Nat} {a w : World} (h : Only g a w) (hg : g ≤ a.heap.size) : Below g a w := ⟨h.os, h.tape, h.output, h.size, fun i hi => h.block i (by omega) (by intro e; injection e with e; omega)⟩
theorem only_low {g B : Nat} {a w : World} (h : Only g a w) (hB : B ≤ g) (hs : B ≤ a.heap.size) : Below B a w := ⟨h.os, h.tape, h.output, h.size, fun i hi => h.block i (by omega) (by intro e; injection e with e; omega)⟩
theorem low_only {B g : Nat} {a b c : World} (h : Below B a b) (k : Only g b c) (hB : B ≤ g) (hs : B ≤ a.heap.size) : Below B a c := h.trans (only_low k hB (Nat.le_trans hs h.size))
theorem low_drewN {B : Nat} {a w : World} (h : Below B a w) (n : Nat) : Below B a (w.drewN n) := ⟨h.os, h.tape, h.output, h.size, h.block⟩
theorem below_only {g : Nat} {a w : World} (h : Below a.heap.size a w) : Only g a w := ⟨h.os, h.tape, h.output, h.size, fun i hi _ => h.block i hi⟩

theorem blk_cell {w : World} {g : Nat} {t : TypeId} {cs : Array Value} (h : w.heap[g]? = some (.cells cs t (0, 0))) (i : Nat) : w.cell? ⟨g, i, none⟩ = cs[i]? := cell_of_row w g i cs t (0, 0) h
theorem blk_free {w : World} {g : Nat} {t : TypeId} {cs : Array Value} (h : w.heap[g]? = some (.cells cs t (0, 0))) (i : Nat) : w.frozen? ⟨g, i, none⟩ = false := by simp [World.frozen?, h]
theorem blk_set {w : World} {g : Nat} {t : TypeId} {cs : Array Value} (h : w.heap[g]? = some (.cells cs t (0, 0))) (i : Nat) (u : Value) : (w.setCell ⟨g, i, none⟩ u).heap[g]? = some (.cells (cs.setIfInBounds i u) t (0, 0)) := by
  simp [World.setCell, Array.getElem?_modify, h]
theorem blk_lt {w : World} {g : Nat} {o : Obj} (h : w.heap[g]? = some o) : g < w.heap.size := by
  rcases Nat.lt_or_ge g w.heap.size with h1 | h1
  · exact h1
  · rw [Array.getElem?_eq_none h1] at h; cases h

theorem q_left {P : Program} {f : FuncId} {args : Array Value} {w : World} {v : Value} (h : Calls P f args w fun e w' => e = .returned v ∧ w = w') : Calls P f args w fun e w'' => e = .returned v ∧ ∃ m, w'' = w.drewN m :=
  h.mono fun _ _ ⟨he, hm⟩ => ⟨he, 0, hm.symm⟩
theorem q_left2 {P : Program} {f : FuncId} {args : Array Value} {w : World} {n : Nat} {v : Value} (h : Calls P f args (w.drewN n) fun e w' => e = .returned v ∧ w.drewN n = w') : Calls P f args (w.drewN n) fun e w'' => e = .returned v ∧ ∃ m, w'' = w.drewN m :=
  h.mono fun _ _ ⟨he, hm⟩ => ⟨he, n, hm.symm⟩
theorem q_left3 {P : Program} {f : FuncId} {args : Array Value} {w : World} {a n : Nat} {v : Value} (h : Calls P f args (w.drewN (a + n)) fun e w' => e = .returned v ∧ w.drewN (a + n) = w') : Calls P f args (w.drewN (a + n)) fun e w'' => e = .returned v ∧ ∃ m, w'' = w.drewN (a + m) :=
  h.mono fun _ _ ⟨he, hm⟩ => ⟨he, n, hm.symm⟩

theorem take_succ' (l : List Int) (k : Nat) (h : k < l.length) : l.take (k + 1) = l.take k ++ [l.getD k 0] := by
  rw [List.take_succ_eq_append_getElem h, List.getD_eq_getElem?_getD, List.getElem?_eq_getElem h]; rfl

theorem u8_info : (Tryd.prog.info? 5).map (fun i => (i.zero, i.size, i.bytes)) = some (some (.int .u8 0), 1, 1) := by kernel_rfl
/-- the call has made a slice of its own that holds the bytes l, and written nothing that was there -/
def Made (w : World) (l : List Int) (e : Ending) (w' : World) : Prop :=
  ∃ a c, e = .returned (.slice a l.length c) ∧ w'.ownsRow w.heap.size 5 1 (.slice a l.length c) l.length (l.map (Value.int .u8)) ∧ Below w.heap.size w w'

theorem one_new (w : World) (x : Value) (t : TypeId) : ∀ (j : Nat) (u : Value), [x][j]? = some u → (w.alloc (.cells #[x] t)).cell? ((⟨w.heap.size, 0, none⟩ : Addr).add j) = some u := by
  intro j u h
  have hj : j = 0 := by
    rcases Nat.eq_zero_or_pos j with h0 | h0
    · exact h0
    · rw [List.getElem?_eq_none (by simp; omega)] at h; cases h
  subst hj
  simp at h
  subst h
  simp [Addr.add]
theorem own_of_blk {w : World} {base g n : Nat} {t : TypeId} {cs : Array Value} {l : List Value} (hh : w.heap[g]? = some (.cells cs t (0, 0))) (hb : base ≤ g) (hn : n ≤ maxLen) (hs : cs.size = n) (hl : cs.toList = l) :
    w.ownsRow base t 1 (.slice (some ⟨g, 0, none⟩) n n) n l :=
  ⟨by rw [← hl]; simp [hs], .inr ⟨g, n, cs, rfl, hb, hh, Nat.le_refl _, hn, by simp [hs], by rw [← hl]; apply List.take_of_length_le; simp [hs]⟩⟩
theorem list_of_get {cs : Array Value} {l : List Value} (hs : cs.size = l.length) (h : ∀ i, i < l.length → cs[i]? = l[i]?) : cs.toList = l := by
  apply List.ext_getElem?
  intro i
  rw [Array.getElem?_toList]
  by_cases hi : i < l.length
  · exact h i hi
  · rw [List.getElem?_eq_none (by omega), Array.getElem?_eq_none (by omega)]
theorem made_size (z : Value) (n : Nat) : (madeCells #[z] n).size = n := by simp [madeCells]
theorem own_cap {w : World} {base : Nat} {t : TypeId} {a : Option Addr} {n k c : Nat} {xs : List Value} (h : w.ownsRow base t k (.slice a n c) n xs) : n ≤ c ∧ c ≤ maxLen := by
  rcases h.2 with ⟨e, rfl⟩ | ⟨g, cap, _, e, _, _, h1, h2, _⟩
  · injection e with _ _ e; subst e; exact ⟨Nat.le_refl _, by decide⟩
  · injection e with _ _ e; subst e; exact ⟨h1, h2⟩
/-- append of bytes, wherever they come from, onto a row of the call's own -/
theorem run_app (w : World) (base : Nat) (ty : TypeId) (v : Value) (n : Nat) (l : List Int) (hown : w.ownsRow base 5 1 v n (l.map (Value.int .u8))) (B : Nat) (A : Option Addr) (m c : Nat) (l2 : List Int) (hm : l2.length = m) (hb : Bs w B A l2) (hA : A = none → m = 0 ∧ c = 0)
    (hbound : n + m ≤ 140737488355328) (hbase : base ≤ w.heap.size) :
    ∃ v' w', (Builtin.append_ #[47, 47] ty #[v, .slice A m c]).run Tryd.prog w = .ok v' w' ∧ w'.ownsRow base 5 1 v' (n + m) ((l ++ l2).map (Value.int .u8)) ∧ w.grownBy w' v.ownBlock := by
  obtain ⟨i0, hi, hz0, hz1, hz2⟩ := info_parts u8_info
  cases A with
  | none =>
    obtain ⟨h1, h2⟩ := hA rfl
    subst h1; subst h2
    have hl : l2 = [] := List.eq_nil_of_length_eq_zero hm
    subst hl
    exact ⟨v, w, run_append_owned_none (P := Tryd.prog) (w := w) base 47 ty 5 i0 1 Tryd.underlying47 hi v n _ hown, by simpa using hown, World.grownBy.refl w _⟩
  | some ad =>
    obtain ⟨v', w', hr, h2, h3, _⟩ := run_append_own (P := Tryd.prog) w base 47 ty 5 i0 (.int .u8 0) 1 1 Tryd.underlying47 hi hz0 hz1 hz2 rfl (by decide) v n _ hown ad m c (l2.map (Value.int .u8)) (by simp [hm]) (by
      intro j u hu
      have hj : j < l2.length := by
        rcases Nat.lt_or_ge j l2.length with h | h
        · exact h
        · rw [List.getElem?_eq_none (by simpa using h)] at hu; cases hu
      obtain ⟨b, off, e, hbl, hc⟩ := hb.at_ hj
      injection e with e
      subst e
      have e2 : (⟨b, off, none⟩ : Addr).add j = ⟨b, off + j, none⟩ := by unfold Addr.add; split <;> simp_all
      rw [e2, hc, ← hu]
      simp [List.getD_eq_getElem?_getD, hj]) (by intro u hu; obtain ⟨y, _, rfl⟩ := List.mem_map.1 hu; rfl) (by simp only [maxLen]; omega) (by omega) hbase
    exact ⟨v', w', hr, by rw [List.map_append]; exact h2, h3⟩
theorem wp_app {w : World} {o : Oper} {a : Act} {K : Act → World → Prop} {Q : Exit → Act → World → Prop} (s x : Operand)
    (ho : o.op = .call { callee := .builtin .append, args := #[s, x], argTypes := #[47, 47] }) (base : Nat) (v : Value) (n : Nat) (l : List Int) (hs : a.eval s = v)
    (hown : w.ownsRow base 5 1 v n (l.map (Value.int .u8))) (B : Nat) (A : Option Addr) (m c : Nat) (l2 : List Int) (hx : a.eval x = .slice A m c) (hm : l2.length = m) (hb : Bs w B A l2) (hA : A = none → m = 0 ∧ c = 0)
    (hbound : n + m ≤ 140737488355328) (hbase : base ≤ w.heap.size)
    (h : ∀ v' w', w'.ownsRow base 5 1 v' (n + m) ((l ++ l2).map (Value.int .u8)) → w.grownBy w' v.ownBlock → K (a.put o.dst v') w') : o.wp Tryd.prog a w K Q := by
  obtain ⟨v', w', hr, h2, h3⟩ := run_app w base o.type v n l hown B A m c l2 hm hb hA hbound hbase
  unfold Oper.wp execOp
  simp only [ho, resolve, invoke, builtin, Sem.run_bind, Sem.run_pure, Result.andThen_ok, List.map_toArray, List.map_cons, List.map_nil, hs, hx, hr]
  exact h v' w' h2 h3
theorem wpList_app {w : World} {ops : Array Oper} {rest : List Oper} {o : Oper} {a : Act} {Q : Exit → Act → World → Prop} (hgd : o.guard = none) (s x : Operand)
    (ho : o.op = .call { callee := .builtin .append, args := #[s, x], argTypes := #[47, 47] }) (base : Nat) (v : Value) (n : Nat) (l : List Int) (hs : a.eval s = v)
    (hown : w.ownsRow base 5 1 v n (l.map (Value.int .u8))) (B : Nat) (A : Option Addr) (m c : Nat) (l2 : List Int) (hx : a.eval x = .slice A m c) (hm : l2.length = m) (hb : Bs w B A l2) (hA : A = none → m = 0 ∧ c = 0)
    (hbound : n + m ≤ 140737488355328) (hbase : base ≤ w.heap.size)
    (h : ∀ v' w', w'.ownsRow base 5 1 v' (n + m) ((l ++ l2).map (Value.int .u8)) → w.grownBy w' v.ownBlock → wpList Tryd.prog ops Q rest (a.put o.dst v') w') : wpList Tryd.prog ops Q (o :: rest) a w :=
  wpList_plain hgd fun _ hK => wp_app s x ho base v n l hs hown B A m c l2 hx hm hb hA hbound hbase fun v' w' h2 h3 => hK _ _ (h v' w' h2 h3)
theorem step_app {w : World} {ops : Array Oper} {o : Oper} {a : Act} {K : Act → World → Prop} {Q : Exit → Act → World → Prop} {E : Prop} (hgd : o.guard = none) (s x : Operand)
    (ho : o.op = .call { callee := .builtin .append, args := #[s, x], argTypes := #[47, 47] }) (base : Nat) (v : Value) (n : Nat) (l : List Int) (hs : a.eval s = v)
    (hown : w.ownsRow base 5 1 v n (l.map (Value.int .u8))) (B : Nat) (A : Option Addr) (m c : Nat) (l2 : List Int) (hx : a.eval x = .slice A m c) (hm : l2.length = m) (hb : Bs w B A l2) (hA : A = none → m = 0 ∧ c = 0)
    (hbound : n + m ≤ 140737488355328) (hbase : base ≤ w.heap.size)
    (h : ∀ v' w', w'.ownsRow base 5 1 v' (n + m) ((l ++ l2).map (Value.int .u8)) → w.grownBy w' v.ownBlock → K (a.put o.dst v') w') :
    if Region.wanted o (yielded ops a.tmps) = true then Oper.wp Tryd.prog o a w K Q else E := by
  have hw : Region.wanted o (yielded ops a.tmps) = true := by simp [Region.wanted, hgd]
  rw [if_pos hw]
  exact wp_app s x ho base v n l hs hown B A m c l2 hx hm hb hA hbound hbase h

/-- a call has made a slice of its own that holds the bytes l, and turned only block g beside -/
def MadeBy (g : Nat) (w : World) (l : List Int) (e : Ending) (w' : World) : Prop :=
  ∃ a c, e = .returned (.slice a l.length c) ∧ l.length ≤ c ∧ Bs w' w'.heap.size a l ∧ Only g w w'
theorem drewN_low {B n : Nat} {a w : World} (h : Below B (a.drewN n) w) : Below B a w := ⟨h.os, h.tape, h.output, h.size, h.block⟩
theorem own_other {w : World} {base g : Nat} {t : TypeId} {v : Value} {n k : Nat} {xs : List Value} (h : w.ownsRow base t k v n xs) (hne : v.ownBlock ≠ some g) (o : Nat) (u : Value) : (w.setCell ⟨g, o, none⟩ u).ownsRow base t k v n xs :=
  h.kept (only_set (only_refl g w) o u) (.inr hne)
theorem own_put {w : World} {base g n c : Nat} {t : TypeId} {l : List Int} (h : w.ownsRow base t 1 (.slice (some ⟨g, 0, none⟩) n c) n (l.map (Value.int .u8))) (k : Nat) (x : Int) :
    (w.setCell ⟨g, k, none⟩ (.int .u8 x)).ownsRow base t 1 (.slice (some ⟨g, 0, none⟩) n c) n ((l.set k x).map (Value.int .u8)) := by
  rw [List.map_set]; exact (h.stored k (.int .u8 x)).1
theorem own_byte {w : World} {base g n c : Nat} {t : TypeId} {l : List Int} (h : w.ownsRow base t 1 (.slice (some ⟨g, 0, none⟩) n c) n (l.map (Value.int .u8))) {k : Nat} (hl : l.length = n) (hk : k < n) :
    w.cell? ⟨g, k, none⟩ = some (.int .u8 (l.getD k 0)) := by
  rw [h.cellAt k (by omega), List.getElem?_map, List.getD_eq_getElem?_getD, List.getElem?_eq_getElem (by omega)]; rfl
theorem own_none {w : World} {base : Nat} {t : TypeId} {a : Option Addr} {n k c : Nat} {xs : List Value} (h : w.ownsRow base t k (.slice a n c) n xs) : a = none → n = 0 ∧ c = 0 := by
  rintro rfl
  rcases h.2 with ⟨e1, e2⟩ | ⟨g, cap, _, e1, _⟩
  · injection e1 with _ _ e1; exact ⟨e2, e1⟩
  · injection e1 with e1; cases e1
theorem bs_under {w : World} {base B : Nat} {t : TypeId} {a : Option Addr} {c : Nat} {l : List Int} (h : w.ownsRow base t 1 (.slice a l.length c) l.length (l.map (Value.int .u8))) (hl : Bytes l) (hB : ∀ k, (Value.slice a l.length c).ownBlock = some k → k < B) : Bs w B a l := by
  obtain ⟨_, h2⟩ := Bs.of_own h hl
  refine ⟨hl, fun hn => ?_⟩
  obtain ⟨b, off, e, _, hc⟩ := h2 hn
  exact ⟨b, off, e, hB b (by rw [e]; rfl), hc⟩

/-- a row of bytes does not lie in a block of a struct whose cells are no bytes -/
theorem bs_ne {w : World} {B g : Nat} {a : Option Addr} {l : List Int} {x y z : Value} {t : TypeId} (hb : Bs w B a l) (hh : w.heap[g]? = some (.cells #[x, y, z] t (0, 0))) (hx : ∀ v, x ≠ .int .u8 v) (hy : ∀ v, y ≠ .int .u8 v) (hz : ∀ v, z ≠ .int .u8 v) {w' : World} (ho : Only g w w') (hB : B ≤ w.heap.size) : Bs w' B a l := by
  refine ⟨hb.1, fun hn => ?_⟩
  obtain ⟨b, off, e, hlt, hc⟩ := hb.2 hn
  have hne : b ≠ g := by
    rintro rfl
    have h0 := hc 0 hn
    rw [blk_cell hh] at h0
    simp only [Nat.add_zero] at h0
    rcases off with _ | _ | _ | off <;> simp at h0
    · exact hx _ h0
    · exact hy _ h0
    · exact hz _ h0
  exact ⟨b, off, e, hlt, fun i hi => (World.cell?_of_block (w := w) (ho.block b (by omega) (by intro e; injection e with e; exact hne e))).trans (hc i hi)⟩
end Go.Proofs.YtbeekjfjfcaobaaDoor

set_option linter.unusedVariables false
set_option maxRecDepth 100000
namespace Go.Proofs.YtbeekjfjfcaobaaDoor
open Go.RowKit

theorem sized_u8 (W : World) : (sizeOf (Tryd.prog.elem 47)).run Tryd.prog W = .ok 1 W := by kernel_rfl
theorem elem_u8 : Tryd.prog.underlying 47 = some (.slice (Tryd.prog.elem 47)) := by kernel_rfl
/-- the bytes behind lo, up to hi -/
def cutOf (l : List Int) (lo hi : Nat) : List Int := (l.drop lo).take (hi - lo)
theorem cutOf_len {l : List Int} {lo hi : Nat} (h : hi ≤ l.length) : (cutOf l lo hi).length = hi - lo := by unfold cutOf; simp; omega
theorem cutOf_bytes {l : List Int} (h : Bytes l) (lo hi : Nat) : Bytes (cutOf l lo hi) := (h.drop _).take _
theorem bs_piece {a : Option Addr} {c : Nat} {l : List Int} (lo hi : Nat) (h1 : lo ≤ hi) (h2 : hi ≤ l.length) (h3 : l.length ≤ c) (w : World) (B : Nat) (hb : Bs w B a l) :
    Bs w B (if c = lo then a else a.map (·.add (lo * 1))) (cutOf l lo hi) := by
  rcases Nat.eq_zero_or_pos (hi - lo) with h0 | h0
  · have : cutOf l lo hi = [] := by unfold cutOf; simp [h0]
    rw [this]; exact Bs.nil_ _ _ _
  · obtain ⟨b, off, rfl, _⟩ := hb.at_ (i := lo) (by omega)
    have hne : ¬ c = lo := by omega
    rw [if_neg hne]
    have e : (some (⟨b, off, none⟩ : Addr)).map (·.add (lo * 1)) = some ⟨b, off + lo, none⟩ := by
      simp only [Option.map_some, Nat.mul_one]
      congr 1; unfold Addr.add; split <;> simp_all
    rw [e]
    exact hb.cut lo (hi - lo) (by omega)
theorem cut_lh (a : Option Addr) (n c : Nat) (l : List Int) (hn : l.length = n) (hc : n ≤ c) (hA : a = none → n = 0 ∧ c = 0) (lo hi : Nat) (h1 : lo ≤ hi) (h2 : hi ≤ n) :
    ∃ a' c', (∀ W, (Instr.sliceAt 47 (.slice a n c) (some (.int .i64 lo)) (some (.int .i64 hi)) none).run Tryd.prog W = .ok (.slice a' (hi - lo) c') W) ∧ (∀ W, (Instr.slice 47 (.slice a n c) (some (.int .i64 lo)) (some (.int .i64 hi)) none).run Tryd.prog W = .ok (.slice a' (hi - lo) c') W) ∧
      (∀ W B, Bs W B a l → Bs W B a' (cutOf l lo hi)) ∧ hi - lo ≤ c' ∧ c' ≤ c ∧ (a' = none → hi - lo = 0 ∧ c' = 0) := by
  subst hn
  have hr : ∀ W, (Instr.slice 47 (.slice a l.length c) (some (.int .i64 lo)) (some (.int .i64 hi)) none).run Tryd.prog W = .ok (.slice (if c = lo then a else a.map (·.add (lo * 1))) (hi - lo) (c - lo)) W := fun W => by
    rw [run_slice_lh W 47 a l.length c elem_u8 .i64 .i64 lo hi (by omega) (by omega) (by omega), sized_u8]
    simp [Result.andThen, sliced]
  refine ⟨_, c - lo, fun W => ?_, hr, fun W B hb => bs_piece lo hi h1 h2 hc W B hb, by omega, by omega, fun h => ?_⟩
  · rw [run_sliceAt_slice _ _ _ _ _ _ elem_u8]; exact hr W
  · have : a = none := by
      cases a with
      | none => rfl
      | some x => split at h <;> simp at h
    have := hA this
    omega
theorem cut_l (a : Option Addr) (n c : Nat) (l : List Int) (hn : l.length = n) (hc : n ≤ c) (hA : a = none → n = 0 ∧ c = 0) (lo : Nat) (h1 : lo ≤ n) :
    ∃ a' c', (∀ W, (Instr.sliceAt 47 (.slice a n c) (some (.int .i64 lo)) none none).run Tryd.prog W = .ok (.slice a' (n - lo) c') W) ∧ (∀ W, (Instr.slice 47 (.slice a n c) (some (.int .i64 lo)) none none).run Tryd.prog W = .ok (.slice a' (n - lo) c') W) ∧
      (∀ W B, Bs W B a l → Bs W B a' (cutOf l lo n)) ∧ n - lo ≤ c' ∧ c' ≤ c ∧ (a' = none → n - lo = 0 ∧ c' = 0) := by
  subst hn
  have hr : ∀ W, (Instr.slice 47 (.slice a l.length c) (some (.int .i64 lo)) none none).run Tryd.prog W = .ok (.slice (if c = lo then a else a.map (·.add (lo * 1))) (l.length - lo) (c - lo)) W := fun W => by
    rw [run_slice_l W 47 a l.length c elem_u8 .i64 lo (by omega) (by omega), sized_u8]
    simp [Result.andThen, sliced]
  refine ⟨_, c - lo, fun W => ?_, hr, fun W B hb => bs_piece lo l.length h1 (Nat.le_refl _) hc W B hb, by omega, by omega, fun h => ?_⟩
  · rw [run_sliceAt_slice _ _ _ _ _ _ elem_u8]; exact hr W
  · have : a = none := by
      cases a with
      | none => rfl
      | some x => split at h <;> simp at h
    have := hA this
    omega
end Go.Proofs.YtbeekjfjfcaobaaDoor

set_option linter.unusedVariables false
set_option maxRecDepth 100000
namespace Go.Proofs.YtbeekjfjfcaobaaDoor
open Go.RowKit

theorem pow_cast (i : Nat) : (2 : Int) ^ i = ((2 ^ i : Nat) : Int) := by simp
theorem pow_mono2 {i j : Nat} (h : i ≤ j) : (2 : Int) ^ i ≤ 2 ^ j := by
  rw [pow_cast, pow_cast]; have := Nat.pow_le_pow_right (n := 2) (by decide) h; omega
theorem bsum_split (f : Nat → Int) (m : Nat) : ∀ n, bsum f (m + n) = bsum f m + 2 ^ m * bsum (fun i => f (m + i)) n
  | 0 => by simp [bsum]
  | n + 1 => by
    rw [← Nat.add_assoc]
    simp only [bsum]
    rw [bsum_split f m n, Int.pow_add, Int.mul_add, Int.add_assoc]
    congr 2
    rw [← Int.mul_assoc, Int.mul_comm (f (m + n)) (2 ^ m), Int.mul_assoc]
theorem bsum_div {f : Nat → Int} (h : ∀ i, 0 ≤ f i ∧ f i ≤ 1) (m n : Nat) : bsum f (m + n) / 2 ^ m = bsum (fun i => f (m + i)) n := by
  have hb := bsum_bound h m
  have hp := pow_pos2 m
  rw [bsum_split, Int.add_mul_ediv_left _ _ (by omega), Int.ediv_eq_zero_of_lt hb.1 hb.2, Int.zero_add]
theorem bsum_mod {f : Nat → Int} (h : ∀ i, 0 ≤ f i ∧ f i ≤ 1) (m n : Nat) : bsum f (m + n) % 2 ^ m = bsum f m := by
  have hb := bsum_bound h m
  rw [bsum_split, Int.add_mul_emod_self_left, Int.emod_eq_of_lt hb.1 hb.2]
theorem bsum_cut {f : Nat → Int} (h : ∀ i, 0 ≤ f i ∧ f i ≤ 1) (s n N : Nat) (hN : s + n ≤ N) : bsum f N / 2 ^ s % 2 ^ n = bsum (fun i => f (s + i)) n := by
  obtain ⟨k, rfl⟩ : ∃ k, N = s + (n + k) := ⟨N - s - n, by omega⟩
  rw [bsum_div h, bsum_mod (fun i => h _)]
theorem bsum_zero {f : Nat → Int} : ∀ n, (∀ i, i < n → f i = 0) → bsum f n = 0
  | 0, _ => rfl
  | n + 1, h => by simp only [bsum]; rw [bsum_zero n (fun i hi => h i (by omega)), h n (by omega)]; simp
theorem mod_bsum (x : Int) : ∀ n, x % 2 ^ n = bsum (bitAt x) n
  | 0 => by simp [bsum, Int.emod_one]
  | n + 1 => by
    have ih := mod_bsum x n
    simp only [bsum]
    rw [← ih, Int.pow_succ]
    have hp := pow_pos2 n
    have e1 := Int.mul_ediv_add_emod x (2 ^ n)
    have e2 := Int.mul_ediv_add_emod (x / 2 ^ n) 2
    have e3 : x / 2 ^ n / 2 = x / (2 ^ n * 2) := Int.ediv_ediv_of_nonneg (by omega)
    have e4 := Int.mul_ediv_add_emod x (2 ^ n * 2)
    have hc : bitAt x n = x / 2 ^ n % 2 := rfl
    rw [hc]
    rw [e3] at e2
    generalize x / (2 ^ n * 2) = q at *
    generalize x % (2 ^ n * 2) = r at *
    generalize x / 2 ^ n % 2 = b at *
    generalize x % 2 ^ n = s at *
    generalize (2 : Int) ^ n = P at *
    rw [← e2, Int.mul_add, ← Int.mul_assoc] at e1
    rw [Int.mul_comm b P]
    omega
theorem bitAt_bd (x : Int) (i : Nat) : 0 ≤ bitAt x i ∧ bitAt x i ≤ 1 := by unfold bitAt; omega

/-- a bit of bytes -/
def bt (l : List Int) (j : Nat) : Int := bitAt (l.getD (j / 8) 0) (j % 8)
theorem bt_bd (l : List Int) (j : Nat) : 0 ≤ bt l j ∧ bt l j ≤ 1 := bitAt_bd _ _
theorem bt_at (l : List Int) (q i : Nat) (hi : i < 8) : bt l (8 * q + i) = bitAt (l.getD q 0) i := by
  unfold bt
  rw [show (8 * q + i) / 8 = q by omega, show (8 * q + i) % 8 = i by omega]
/-- the number of n bits from the bit p on -/
def tk (l : List Int) (p n : Nat) : Int := bsum (fun i => bt l (p + i)) n
theorem tk_bd (l : List Int) (p n : Nat) : 0 ≤ tk l p n ∧ tk l p n < 2 ^ n := bsum_bound (fun i => bt_bd _ _) n
theorem tk_succ (l : List Int) (p n : Nat) : tk l p (n + 1) = tk l p n + bt l (p + n) * 2 ^ n := rfl
theorem byte_bits (l : List Int) (h : Bytes l) (q : Nat) : l.getD q 0 = tk l (8 * q) 8 := by
  have hb := h.at_ q
  have h1 := mod_bsum (l.getD q 0) 8
  have e : (2 : Int) ^ 8 = 256 := by decide
  rw [e, Int.emod_eq_of_lt hb.1 (by omega)] at h1
  rw [h1]
  exact bsum_congr 8 fun i hi => by rw [bt_at _ _ _ hi]
theorem tk_byte (l : List Int) (h : Bytes l) (F m : Nat) : tk l (8 * F) (8 * (m + 1)) = tk l (8 * F) (8 * m) + l.getD (F + m) 0 * 2 ^ (8 * m) := by
  have e : 8 * (m + 1) = 8 * m + 8 := by omega
  unfold tk
  rw [e, bsum_split, byte_bits l h (F + m), Int.mul_comm (2 ^ (8 * m))]
  unfold tk
  congr 2
  exact bsum_congr 8 fun i _ => by congr 1; omega
theorem tk_cut (l : List Int) (F s n N : Nat) (h : s + n ≤ N) : tk l (8 * F) N / 2 ^ s % 2 ^ n = tk l (8 * F + s) n := by
  unfold tk
  rw [bsum_cut (fun i => bt_bd _ _) s n N h]
  exact bsum_congr n fun i _ => by congr 1; omega

theorem u8_wrap' (n : Int) : IntKind.u8.wrap n = n % 256 := by simp [IntKind.wrap, IntKind.bits, IntKind.signed]
theorem u64_wrap (n : Int) : IntKind.u64.wrap n = n % 18446744073709551616 := by simp [IntKind.wrap, IntKind.bits, IntKind.signed]
theorem or_u64 (v x : Int) (i : Nat) (hv : 0 ≤ v ∧ v < 2 ^ i) (hx : 0 ≤ x) (h : x * 2 ^ i + v < 18446744073709551616) : bits .or .u64 v (x * 2 ^ i) = v + x * 2 ^ i := by
  obtain ⟨V, rfl⟩ := Int.eq_ofNat_of_zero_le hv.1
  obtain ⟨X, rfl⟩ := Int.eq_ofNat_of_zero_le hx
  have hp := Nat.two_pow_pos i
  rw [pow_cast] at *
  have hlt : V < 2 ^ i := by omega
  have e0 : (X : Int) * ((2 ^ i : Nat) : Int) = ((2 ^ i * X : Nat) : Int) := by rw [Nat.mul_comm, Int.natCast_mul]
  rw [e0] at h ⊢
  have h1 : (BitVec.ofInt 64 (V : Int)).toNat = V := by rw [BitVec.ofInt_natCast, BitVec.toNat_ofNat]; exact Nat.mod_eq_of_lt (by omega)
  have h2 : (BitVec.ofInt 64 ((2 ^ i * X : Nat) : Int)).toNat = 2 ^ i * X := by rw [BitVec.ofInt_natCast, BitVec.toNat_ofNat]; exact Nat.mod_eq_of_lt (by omega)
  show IntKind.u64.wrap (((BitVec.ofInt 64 (V : Int) ||| BitVec.ofInt 64 ((2 ^ i * X : Nat) : Int)).toNat : Nat) : Int) = _
  rw [BitVec.toNat_or, h1, h2, Nat.or_comm, ← Nat.two_pow_add_eq_or_of_lt hlt, IntWalk.u64_in] <;> omega
theorem or_step (v x : Int) (j : Nat) (hj : j < 7) (hv : 0 ≤ v ∧ v < 2 ^ (8 * j)) (hx : 0 ≤ x ∧ x ≤ 255) :
    bits .or .u64 v (IntKind.u64.wrap (x * 2 ^ (8 * j))) = v + x * 2 ^ (8 * j) := by
  have h1 := pow_mono2 (show 8 * j ≤ 48 by omega)
  have h2 : x * 2 ^ (8 * j) ≤ 255 * 2 ^ (8 * j) := Int.mul_le_mul_of_nonneg_right hx.2 (Int.le_of_lt (pow_pos2 _))
  have h3 : 0 ≤ x * 2 ^ (8 * j) := Int.mul_nonneg hx.1 (Int.le_of_lt (pow_pos2 _))
  have h4 : (2 : Int) ^ 48 = 281474976710656 := by decide
  rw [IntWalk.u64_in _ (by omega)]
  exact or_u64 v x (8 * j) hv hx.1 (by omega)
/-- a mask of n ones -/
theorem and_mask (x : Int) (n : Nat) (hn : n ≤ 16) (hx : 0 ≤ x ∧ x < 18446744073709551616) : bits .and .u64 x (2 ^ n - 1) = x % 2 ^ n := by
  have h1 := ofInt_toNat 64 x
  have hm := pow_mono2 (show n ≤ 16 by omega)
  have hp := pow_pos2 n
  have e16 : (2 : Int) ^ 16 = 65536 := by decide
  have h2 : (BitVec.ofInt 64 ((2 : Int) ^ n - 1)).toNat = 2 ^ n - 1 := by
    have := ofInt_toNat 64 ((2 : Int) ^ n - 1)
    have e1 := pow_cast n
    omega
  have e : (((BitVec.ofInt 64 x).toNat % 2 ^ n : Nat) : Int) = x % 2 ^ n := by
    rw [Int.natCast_emod, h1, ← pow_cast, Int.emod_eq_of_lt hx.1 (by omega)]
  have hlt := Int.emod_lt_of_pos x hp
  have hge := Int.emod_nonneg x (b := (2 : Int) ^ n) (by omega)
  rw [andu64_is, BitVec.toNat_and, h2, Nat.and_two_pow_sub_one_eq_mod, e, IntWalk.u64_in _ (by omega)]
/-- bits that are apart from each other, in a byte -/
theorem or_u8 (x V : Int) (s : Nat) (hs : s ≤ 7) (hx : 0 ≤ x ∧ x < 2 ^ s) (hV : 0 ≤ V) : bits .or .u8 x (V * 2 ^ s % 256) = (x + V * 2 ^ s) % 256 := by
  obtain ⟨X, rfl⟩ := Int.eq_ofNat_of_zero_le hx.1
  obtain ⟨v, rfl⟩ := Int.eq_ofNat_of_zero_le hV
  have hp := Nat.two_pow_pos s
  rw [pow_cast] at *
  have hlt : X < 2 ^ s := by omega
  have e256 : 256 = 2 ^ s * 2 ^ (8 - s) := by rw [← Nat.pow_add, show s + (8 - s) = 8 by omega]
  have e1 : ((v : Int) * ((2 ^ s : Nat) : Int)) % 256 = ((2 ^ s * (v % 2 ^ (8 - s)) : Nat) : Int) := by
    have : (v * 2 ^ s) % 256 = 2 ^ s * (v % 2 ^ (8 - s)) := by
      rw [e256, Nat.mul_comm v, Nat.mul_mod_mul_left]
    rw [← this]; simp only [Int.natCast_emod, Int.natCast_mul]; rfl
  have hq := Nat.mod_lt v (Nat.two_pow_pos (8 - s))
  have hle : 2 ^ s * (v % 2 ^ (8 - s)) + 2 ^ s ≤ 256 := by
    have := Nat.mul_le_mul_left (2 ^ s) (show v % 2 ^ (8 - s) + 1 ≤ 2 ^ (8 - s) by omega)
    rw [← e256, Nat.mul_add] at this; omega
  have e2 : ((X : Int) + (v : Int) * ((2 ^ s : Nat) : Int)) % 256 = X + ((2 ^ s * (v % 2 ^ (8 - s)) : Nat) : Int) := by
    omega
  rw [e1, e2]
  have h1 : (BitVec.ofInt 8 (X : Int)).toNat = X := by rw [BitVec.ofInt_natCast, BitVec.toNat_ofNat]; exact Nat.mod_eq_of_lt (by omega)
  have h2 : (BitVec.ofInt 8 ((2 ^ s * (v % 2 ^ (8 - s)) : Nat) : Int)).toNat = 2 ^ s * (v % 2 ^ (8 - s)) := by rw [BitVec.ofInt_natCast, BitVec.toNat_ofNat]; exact Nat.mod_eq_of_lt (by omega)
  show IntKind.u8.wrap (((BitVec.ofInt 8 (X : Int) ||| BitVec.ofInt 8 ((2 ^ s * (v % 2 ^ (8 - s)) : Nat) : Int)).toNat : Nat) : Int) = _
  rw [BitVec.toNat_or, h1, h2, Nat.or_comm, ← Nat.two_pow_add_eq_or_of_lt hlt]
  rw [u8_wrap']; omega
end Go.Proofs.YtbeekjfjfcaobaaDoor
