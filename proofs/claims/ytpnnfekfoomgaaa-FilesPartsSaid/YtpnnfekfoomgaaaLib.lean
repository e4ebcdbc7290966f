/- How rows of bytes, structs behind pointers and blocks of the call's own are kept in a world: words that every layer uses. No condition. -/
import Derived.Test.YtpnnfekfoomgaaaMem
import Derived.Test.YtpnnfekfoomgaaaNum
import Derived.Test.YtpnnfekfoomgaaaRows
import Derived.Deep.QuietTactic
import Derived.BigQuiet
import Derived.WalkSpells
import Derived.OneCell
import Derived.Laws.Rows
import Derived.Deep.OwnRows
import Derived.Laws.AppendOwnNone
import Derived.RegionTactic
import Derived.Deep.RegionHeld3
import Derived.Deep.RegionLaw
set_option linter.unusedVariables false
set_option maxRecDepth 100000
namespace Go.Proofs.Ytpnnfekfoomgaaa
open Go.RowKit

theorem ret1 {a c : Int} {k : IntKind} (h1 : a = c) : Ending.returned (.int k a) = .returned (.int k c) := by rw [h1]
theorem retb {a c : Bool} (h1 : a = c) : Ending.returned (.bool a) = .returned (.bool c) := by rw [h1]
/-- only block g, and what is new, has turned -/
abbrev Only (g : Nat) (w w' : World) : Prop := w.grownBy w' (some g)
theorem only_refl (g : Nat) (w : World) : Only g w w := ⟨rfl, rfl, rfl, Nat.le_refl _, fun _ _ _ => rfl⟩
theorem only_trans {g : Nat} {a b c : World} (h : Only g a b) (k : Only g b c) : Only g a c :=
  ⟨k.os.trans h.os, k.tape.trans h.tape, k.output.trans h.output, Nat.le_trans h.size k.size, fun i hi hne => (k.block i (Nat.lt_of_lt_of_le hi h.size) hne).trans (h.block i hi hne)⟩
theorem only_drewN {g : Nat} {a w : World} (h : Only g a w) (n : Nat) : Only g a (w.drewN n) := ⟨h.os, h.tape, h.output, h.size, h.block⟩
theorem only_set {g : Nat} {a w : World} (h : Only g a w) (o : Nat) (u : Value) : Only g a (w.setCell ⟨g, o, none⟩ u) :=
  ⟨h.os, h.tape, h.output, by simpa [World.setCell] using h.size, fun i hi hne => (Below.heap_setCell w ⟨g, o, none⟩ u i (by rintro rfl; exact hne rfl)).trans (h.block i hi hne)⟩
theorem only_below {g : Nat} {a w : World} (h : Only g a w) (hg : g ≤ a.heap.size) : Below g a w := ⟨h.os, h.tape, h.output, h.size, fun i hi => h.block i (by omega) (by intro e; injection e with e; omega)⟩
theorem only_low {g B : Nat} {a w : World} (h : Only g a w) (hB : B ≤ g) (hs : B ≤ a.heap.size) : Below B a w := ⟨h.os, h.tape, h.output, h.size, fun i hi => h.block i (by omega) (by intro e; injection e with e; omega)⟩
theorem low_only {B g : Nat} {a b c : World} (h : Below B a b) (k : Only g b c) (hB : B ≤ g) (hs : B ≤ a.heap.size) : Below B a c := h.trans (only_low k hB (Nat.le_trans hs h.size))
theorem low_drewN {B : Nat} {a w : World} (h : Below B a w) (n : Nat) : Below B a (w.drewN n) := ⟨h.os, h.tape, h.output, h.size, h.block⟩
theorem below_only {g : Nat} {a w : World} (h : Below a.heap.size a w) : Only g a w := ⟨h.os, h.tape, h.output, h.size, fun i hi _ => h.block i hi⟩

theorem blk_cell {w : World} {g : Nat} {t : TypeId} {cs : Array Value} (h : w.heap[g]? = some (.cells cs t (0, 0))) (i : Nat) : w.cell? ⟨g, i, none⟩ = cs[i]? := cell_of_row w g i cs t (0, 0) h
theorem blk_free {w : World} {g : Nat} {t : TypeId} {cs : Array Value} (h : w.heap[g]? = some (.cells cs t (0, 0))) (i : Nat) : w.frozen? ⟨g, i, none⟩ = false := by simp [World.frozen?, h]
theorem blk_set {w : World} {g : Nat} {t : TypeId} {cs : Array Value} (h : w.heap[g]? = some (.cells cs t (0, 0))) (i : Nat) (u : Value) : (w.setCell ⟨g, i, none⟩ u).heap[g]? = some (.cells (cs.setIfInBounds i u) t (0, 0)) := by
  simp [World.setCell, Array.getElem?_modify, h]
theorem blk_lt {w : World} {g : Nat} {o : Obj} (h : w.heap[g]? = some o) : g < w.heap.size := by
  rcases Nat.lt_or_ge g w.heap.size with h1 | h1
  · exact h1
  · rw [Array.getElem?_eq_none h1] at h; cases h

theorem q_left {P : Program} {f : FuncId} {args : Array Value} {w : World} {v : Value} (h : Calls P f args w fun e w' => e = .returned v ∧ w = w') : Calls P f args w fun e w'' => e = .returned v ∧ ∃ m, w'' = w.drewN m :=
  h.mono fun _ _ ⟨he, hm⟩ => ⟨he, 0, hm.symm⟩
theorem q_left2 {P : Program} {f : FuncId} {args : Array Value} {w : World} {n : Nat} {v : Value} (h : Calls P f args (w.drewN n) fun e w' => e = .returned v ∧ w.drewN n = w') : Calls P f args (w.drewN n) fun e w'' => e = .returned v ∧ ∃ m, w'' = w.drewN m :=
  h.mono fun _ _ ⟨he, hm⟩ => ⟨he, n, hm.symm⟩
theorem q_left3 {P : Program} {f : FuncId} {args : Array Value} {w : World} {a n : Nat} {v : Value} (h : Calls P f args (w.drewN (a + n)) fun e w' => e = .returned v ∧ w.drewN (a + n) = w') : Calls P f args (w.drewN (a + n)) fun e w'' => e = .returned v ∧ ∃ m, w'' = w.drewN (a + m) :=
  h.mono fun _ _ ⟨he, hm⟩ => ⟨he, n, hm.symm⟩

theorem take_succ' (l : List Int) (k : Nat) (h : k < l.length) : l.take (k + 1) = l.take k ++ [l.getD k 0] := by
  rw [List.take_succ_eq_append_getElem h, List.getD_eq_getElem?_getD, List.getElem?_eq_getElem h]; rfl

theorem u8_info : (Try.prog.info? 5).map (fun i => (i.zero, i.size, i.bytes)) = some (some (.int .u8 0), 1, 1) := by kernel_rfl
/-- the call has made a slice of its own that holds the bytes l, and written nothing that was there -/
def Made (w : World) (l : List Int) (e : Ending) (w' : World) : Prop :=
  ∃ a c, e = .returned (.slice a l.length c) ∧ w'.ownsRow w.heap.size 5 1 (.slice a l.length c) l.length (l.map (Value.int .u8)) ∧ Below w.heap.size w w'

theorem one_new (w : World) (x : Value) (t : TypeId) : ∀ (j : Nat) (u : Value), [x][j]? = some u → (w.alloc (.cells #[x] t)).cell? ((⟨w.heap.size, 0, none⟩ : Addr).add j) = some u := by
  intro j u h
  have hj : j = 0 := by
    rcases Nat.eq_zero_or_pos j with h0 | h0
    · exact h0
    · rw [List.getElem?_eq_none (by simp; omega)] at h; cases h
  subst hj
  simp at h
  subst h
  simp [Addr.add]
theorem own_of_blk {w : World} {base g n : Nat} {t : TypeId} {cs : Array Value} {l : List Value} (hh : w.heap[g]? = some (.cells cs t (0, 0))) (hb : base ≤ g) (hn : n ≤ maxLen) (hs : cs.size = n) (hl : cs.toList = l) :
    w.ownsRow base t 1 (.slice (some ⟨g, 0, none⟩) n n) n l :=
  ⟨by rw [← hl]; simp [hs], .inr ⟨g, n, cs, rfl, hb, hh, Nat.le_refl _, hn, by simp [hs], by rw [← hl]; apply List.take_of_length_le; simp [hs]⟩⟩
theorem list_of_get {cs : Array Value} {l : List Value} (hs : cs.size = l.length) (h : ∀ i, i < l.length → cs[i]? = l[i]?) : cs.toList = l := by
  apply List.ext_getElem?
  intro i
  rw [Array.getElem?_toList]
  by_cases hi : i < l.length
  · exact h i hi
  · rw [List.getElem?_eq_none (by omega), Array.getElem?_eq_none (by omega)]
theorem made_size (z : Value) (n : Nat) : (madeCells #[z] n).size = n := by simp [madeCells]
theorem own_cap {w : World} {base : Nat} {t : TypeId} {a : Option Addr} {n k c : Nat} {xs : List Value} (h : w.ownsRow base t k (.slice a n c) n xs) : n ≤ c ∧ c ≤ maxLen := by
  rcases h.2 with ⟨e, rfl⟩ | ⟨g, cap, _, e, _, _, h1, h2, _⟩
  · injection e with _ _ e; subst e; exact ⟨Nat.le_refl _, by decide⟩
  · injection e with _ _ e; subst e; exact ⟨h1, h2⟩
/-- append of bytes, wherever they come from, onto a row of the call's own -/
theorem run_app (w : World) (base : Nat) (ty : TypeId) (v : Value) (n : Nat) (l : List Int) (hown : w.ownsRow base 5 1 v n (l.map (Value.int .u8))) (B : Nat) (A : Option Addr) (m c : Nat) (l2 : List Int) (hm : l2.length = m) (hb : Bs w B A l2) (hA : A = none → m = 0 ∧ c = 0)
    (hbound : n + m ≤ 140737488355328) (hbase : base ≤ w.heap.size) :
    ∃ v' w', (Builtin.append_ #[22, 22] ty #[v, .slice A m c]).run Try.prog w = .ok v' w' ∧ w'.ownsRow base 5 1 v' (n + m) ((l ++ l2).map (Value.int .u8)) ∧ w.grownBy w' v.ownBlock := by
  obtain ⟨i0, hi, hz0, hz1, hz2⟩ := info_parts u8_info
  cases A with
  | none =>
    obtain ⟨h1, h2⟩ := hA rfl
    subst h1; subst h2
    have hl : l2 = [] := List.eq_nil_of_length_eq_zero hm
    subst hl
    exact ⟨v, w, run_append_owned_none (P := Try.prog) (w := w) base 22 ty 5 i0 1 Try.underlying22 hi v n _ hown, by simpa using hown, World.grownBy.refl w _⟩
  | some ad =>
    obtain ⟨v', w', hr, h2, h3, _⟩ := run_append_own (P := Try.prog) w base 22 ty 5 i0 (.int .u8 0) 1 1 Try.underlying22 hi hz0 hz1 hz2 rfl (by decide) v n _ hown ad m c (l2.map (Value.int .u8)) (by simp [hm]) (by
      intro j u hu
      have hj : j < l2.length := by
        rcases Nat.lt_or_ge j l2.length with h | h
        · exact h
        · rw [List.getElem?_eq_none (by simpa using h)] at hu; cases hu
      obtain ⟨b, off, e, hbl, hc⟩ := hb.at_ hj
      injection e with e
      subst e
      have e2 : (⟨b, off, none⟩ : Addr).add j = ⟨b, off + j, none⟩ := by unfold Addr.add; split <;> simp_all
      rw [e2, hc, ← hu]
      simp [List.getD_eq_getElem?_getD, hj]) (by intro u hu; obtain ⟨y, _, rfl⟩ := List.mem_map.1 hu; rfl) (by simp only [maxLen]; omega) (by omega) hbase
    exact ⟨v', w', hr, by rw [List.map_append]; exact h2, h3⟩
theorem wp_app {w : World} {o : Oper} {a : Act} {K : Act → World → Prop} {Q : Exit → Act → World → Prop} (s x : Operand)
    (ho : o.op = .call { callee := .builtin .append, args := #[s, x], argTypes := #[22, 22] }) (base : Nat) (v : Value) (n : Nat) (l : List Int) (hs : a.eval s = v)
    (hown : w.ownsRow base 5 1 v n (l.map (Value.int .u8))) (B : Nat) (A : Option Addr) (m c : Nat) (l2 : List Int) (hx : a.eval x = .slice A m c) (hm : l2.length = m) (hb : Bs w B A l2) (hA : A = none → m = 0 ∧ c = 0)
    (hbound : n + m ≤ 140737488355328) (hbase : base ≤ w.heap.size)
    (h : ∀ v' w', w'.ownsRow base 5 1 v' (n + m) ((l ++ l2).map (Value.int .u8)) → w.grownBy w' v.ownBlock → K (a.put o.dst v') w') : o.wp Try.prog a w K Q := by
  obtain ⟨v', w', hr, h2, h3⟩ := run_app w base o.type v n l hown B A m c l2 hm hb hA hbound hbase
  unfold Oper.wp execOp
  simp only [ho, resolve, invoke, builtin, Sem.run_bind, Sem.run_pure, Result.andThen_ok, List.map_toArray, List.map_cons, List.map_nil, hs, hx, hr]
  exact h v' w' h2 h3
theorem wpList_app {w : World} {ops : Array Oper} {rest : List Oper} {o : Oper} {a : Act} {Q : Exit → Act → World → Prop} (hgd : o.guard = none) (s x : Operand)
    (ho : o.op = .call { callee := .builtin .append, args := #[s, x], argTypes := #[22, 22] }) (base : Nat) (v : Value) (n : Nat) (l : List Int) (hs : a.eval s = v)
    (hown : w.ownsRow base 5 1 v n (l.map (Value.int .u8))) (B : Nat) (A : Option Addr) (m c : Nat) (l2 : List Int) (hx : a.eval x = .slice A m c) (hm : l2.length = m) (hb : Bs w B A l2) (hA : A = none → m = 0 ∧ c = 0)
    (hbound : n + m ≤ 140737488355328) (hbase : base ≤ w.heap.size)
    (h : ∀ v' w', w'.ownsRow base 5 1 v' (n + m) ((l ++ l2).map (Value.int .u8)) → w.grownBy w' v.ownBlock → wpList Try.prog ops Q rest (a.put o.dst v') w') : wpList Try.prog ops Q (o :: rest) a w :=
  wpList_plain hgd fun _ hK => wp_app s x ho base v n l hs hown B A m c l2 hx hm hb hA hbound hbase fun v' w' h2 h3 => hK _ _ (h v' w' h2 h3)
theorem step_app {w : World} {ops : Array Oper} {o : Oper} {a : Act} {K : Act → World → Prop} {Q : Exit → Act → World → Prop} {E : Prop} (hgd : o.guard = none) (s x : Operand)
    (ho : o.op = .call { callee := .builtin .append, args := #[s, x], argTypes := #[22, 22] }) (base : Nat) (v : Value) (n : Nat) (l : List Int) (hs : a.eval s = v)
    (hown : w.ownsRow base 5 1 v n (l.map (Value.int .u8))) (B : Nat) (A : Option Addr) (m c : Nat) (l2 : List Int) (hx : a.eval x = .slice A m c) (hm : l2.length = m) (hb : Bs w B A l2) (hA : A = none → m = 0 ∧ c = 0)
    (hbound : n + m ≤ 140737488355328) (hbase : base ≤ w.heap.size)
    (h : ∀ v' w', w'.ownsRow base 5 1 v' (n + m) ((l ++ l2).map (Value.int .u8)) → w.grownBy w' v.ownBlock → K (a.put o.dst v') w') :
    if Region.wanted o (yielded ops a.tmps) = true then Oper.wp Try.prog o a w K Q else E := by
  have hw : Region.wanted o (yielded ops a.tmps) = true := by simp [Region.wanted, hgd]
  rw [if_pos hw]
  exact wp_app s x ho base v n l hs hown B A m c l2 hx hm hb hA hbound hbase h

/-- a call has made a slice of its own that holds the bytes l, and turned only block g beside -/
def MadeBy (g : Nat) (w : World) (l : List Int) (e : Ending) (w' : World) : Prop :=
  ∃ a c, e = .returned (.slice a l.length c) ∧ l.length ≤ c ∧ Bs w' w'.heap.size a l ∧ Only g w w'
theorem drewN_low {B n : Nat} {a w : World} (h : Below B (a.drewN n) w) : Below B a w := ⟨h.os, h.tape, h.output, h.size, h.block⟩
theorem own_other {w : World} {base g : Nat} {t : TypeId} {v : Value} {n k : Nat} {xs : List Value} (h : w.ownsRow base t k v n xs) (hne : v.ownBlock ≠ some g) (o : Nat) (u : Value) : (w.setCell ⟨g, o, none⟩ u).ownsRow base t k v n xs :=
  h.kept (only_set (only_refl g w) o u) (.inr hne)
theorem own_put {w : World} {base g n c : Nat} {t : TypeId} {l : List Int} (h : w.ownsRow base t 1 (.slice (some ⟨g, 0, none⟩) n c) n (l.map (Value.int .u8))) (k : Nat) (x : Int) :
    (w.setCell ⟨g, k, none⟩ (.int .u8 x)).ownsRow base t 1 (.slice (some ⟨g, 0, none⟩) n c) n ((l.set k x).map (Value.int .u8)) := by
  rw [List.map_set]; exact (h.stored k (.int .u8 x)).1
theorem own_byte {w : World} {base g n c : Nat} {t : TypeId} {l : List Int} (h : w.ownsRow base t 1 (.slice (some ⟨g, 0, none⟩) n c) n (l.map (Value.int .u8))) {k : Nat} (hl : l.length = n) (hk : k < n) :
    w.cell? ⟨g, k, none⟩ = some (.int .u8 (l.getD k 0)) := by
  rw [h.cellAt k (by omega), List.getElem?_map, List.getD_eq_getElem?_getD, List.getElem?_eq_getElem (by omega)]; rfl
theorem own_none {w : World} {base : Nat} {t : TypeId} {a : Option Addr} {n k c : Nat} {xs : List Value} (h : w.ownsRow base t k (.slice a n c) n xs) : a = none → n = 0 ∧ c = 0 := by
  rintro rfl
  rcases h.2 with ⟨e1, e2⟩ | ⟨g, cap, _, e1, _⟩
  · injection e1 with _ _ e1; exact ⟨e2, e1⟩
  · injection e1 with e1; cases e1
theorem bs_under {w : World} {base B : Nat} {t : TypeId} {a : Option Addr} {c : Nat} {l : List Int} (h : w.ownsRow base t 1 (.slice a l.length c) l.length (l.map (Value.int .u8))) (hl : Bytes l) (hB : ∀ k, (Value.slice a l.length c).ownBlock = some k → k < B) : Bs w B a l := by
  obtain ⟨_, h2⟩ := Bs.of_own h hl
  refine ⟨hl, fun hn => ?_⟩
  obtain ⟨b, off, e, _, hc⟩ := h2 hn
  exact ⟨b, off, e, hB b (by rw [e]; rfl), hc⟩

/-- a row of bytes does not lie in a block of a struct whose cells are no bytes -/
theorem bs_ne {w : World} {B g : Nat} {a : Option Addr} {l : List Int} {x y z : Value} {t : TypeId} (hb : Bs w B a l) (hh : w.heap[g]? = some (.cells #[x, y, z] t (0, 0))) (hx : ∀ v, x ≠ .int .u8 v) (hy : ∀ v, y ≠ .int .u8 v) (hz : ∀ v, z ≠ .int .u8 v) {w' : World} (ho : Only g w w') (hB : B ≤ w.heap.size) : Bs w' B a l := by
  refine ⟨hb.1, fun hn => ?_⟩
  obtain ⟨b, off, e, hlt, hc⟩ := hb.2 hn
  have hne : b ≠ g := by
    rintro rfl
    have h0 := hc 0 hn
    rw [blk_cell hh] at h0
    simp only [Nat.add_zero] at h0
    rcases off with _ | _ | _ | off <;> simp at h0
    · exact hx _ h0
    · exact hy _ h0
    · exact hz _ h0
  exact ⟨b, off, e, hlt, fun i hi => (World.cell?_of_block (w := w) (ho.block b (by omega) (by intro e; injection e with e; exact hne e))).trans (hc i hi)⟩
end Go.Proofs.Ytpnnfekfoomgaaa
