/- Contracts of entry's plain and Unpack. Condition: the order of the lengths lies where the program's own text lays it. -/
import Derived.Test.YtdcpibglbanchaaDoorCr
import Derived.Test.YtdcpibglbanchaaDoorLl
import Derived.Test.YtdcpibglbanchaaDoorRg
import Derived.Deep.DeepCutAuto
import Derived.Great.BuildSlice
import Derived.Deep.MidRow
import Derived.Laws.ResultCell
set_option linter.unusedVariables false
set_option maxRecDepth 100000
namespace Go.Proofs.YtdcpibglbanchaaDoor
open Go.RowKit

theorem part_info : (Tryd.prog.info? 22).map (fun i => (i.zero, i.size, i.bytes)) = some (some (.slice none 0 0), 1, 24) := by kernel_rfl
theorem add_zero (p : Addr) : p.add 0 = p := by cases p; unfold Addr.add; split <;> simp_all
section
variable {a : Act} {w : World} {o : Oper}
theorem x_move {x : Operand} {v : Value} (ho : o.op = .move x) (hv : a.eval x = v) : (execOp a.eval o).run Tryd.prog w = .ok (.value v) w := by
  subst hv; unfold execOp; rw [ho]; rfl
theorem x_assign {x : Operand} {v : Value} (ho : o.op = .assign x) (hv : a.eval x = v) : (execOp a.eval o).run Tryd.prog w = .ok (.value v) w := by
  subst hv; unfold execOp; rw [ho]; rfl
theorem x_lit {x : Operand} {b : Option Addr} {n c : Nat} (ho : o.op = .buildSlice 63 1 #[(0, x)]) (hx : a.eval x = .slice b n c) : (execOp a.eval o).run Tryd.prog w = .ok (.value (.slice (some ⟨w.heap.size, 0, none⟩) 1 1)) (w.alloc (.cells #[.slice b n c] 22)) := by
  obtain ⟨i0, hi, hz0, hz1, hz2⟩ := info_parts part_info
  have hr : (Instr.buildSlice 63 1 #[(0, .slice b n c)]).run Tryd.prog w = .ok (.slice (some ⟨w.heap.size, 0, none⟩) 1 1) (w.alloc (.cells #[.slice b n c] 22)) :=
    run_buildSlice w _ _ 1 _ _ i0 _ Tryd.underlying63 hi hz0 (by rw [hz1]; decide) (by rw [hz1]; decide) (by rw [hz1]; simp [Instr.fill, Value.cells]; apply Array.ext'; simp [Array.toList_setIfInBounds, List.range_succ])
  unfold execOp
  simp only [ho, List.map_toArray, List.map, hx, Sem.run_bind, hr]
  rfl
theorem x_call {x : Operand} {ats : Array TypeId} (ho : o.op = .call { callee := .value (.func 16), args := #[x], argTypes := ats }) : (execOp a.eval o).run Tryd.prog w = .ok (.enter 16 #[a.eval x]) w := by
  have ef : a.eval (.func 16) = .func (.func 16) #[] #[] := rfl
  have hn : (Tryd.f16.name == "runtime.NumGoroutine") = false := by kernel_rfl
  have hn' : ¬ Tryd.f16.name = "runtime.NumGoroutine" := by simpa using hn
  have hb : Tryd.f16.body.isNone = false := by kernel_rfl
  have hb' : ¬ Tryd.f16.body = none := fun h => by rw [h] at hb; cases hb
  unfold execOp
  simp [ho, resolve, Deferred.ofValue, invoke, ef, callFunc, run_program, Tryd.func16, hn', hb']end
/-- a literal of one part, u -/
def PartV (w : World) (u v : Value) : Prop := ∃ b, v = .slice (some ⟨b, 0, none⟩) 1 1 ∧ b < w.heap.size ∧ w.cell? ⟨b, 0, none⟩ = some u
theorem PartV.below {w w' : World} {u v : Value} (h : PartV w u v) (hb : Below w.heap.size w w') : PartV w' u v := by
  obtain ⟨b, rfl, h1, h2⟩ := h
  exact ⟨b, rfl, by have := hb.size; omega, (hb.cell (p := ⟨b, 0, none⟩) h1).trans h2⟩
theorem PartV.new (w : World) (u : Value) (t : TypeId) : PartV (w.alloc (.cells #[u] t)) u (.slice (some ⟨w.heap.size, 0, none⟩) 1 1) :=
  ⟨w.heap.size, rfl, by simp, by rw [blk_cell (heap_alloc_new w _)]; rfl⟩
theorem PartV.call {w : World} {a : Option Addr} {n c : Nat} {l : List Int} {v : Value} (h : PartV w (.slice a n c) v) (hb : Bs w w.heap.size a l) (hn : l.length = n) (hm : n ≤ 140737488355328) :
    Calls Tryd.prog 16 #[v] w fun e w' => e = .returned (.int .i64 (sumOf 0 l)) ∧ Below w.heap.size w w' := by
  subst hn
  obtain ⟨b, rfl, h1, h2⟩ := h
  have := sumOfCall (some ⟨b, 0, none⟩) 1 1 [l] rfl (by decide) w ⟨fun p hp => by simp at hp; subst hp; exact hm, fun _ => ⟨b, 0, rfl, h1, fun i hi => by
    obtain rfl : i = 0 := by simpa using hi
    exact ⟨a, c, h2, hb⟩⟩⟩
  exact this.mono fun e w' ⟨h1, h2⟩ => ⟨by simpa using h1, h2⟩
/-- a record as a value -/
def recV (nm : ByteArray) (me pk sz sm at_ hd : Int) : Value := .agg #[.string nm, .int .i64 me, .int .i64 pk, .int .i64 sz, .int .i64 sm, .int .i64 at_, .int .i64 hd]
def recE (nm : ByteArray) (me pk sz sm at_ hd : Int) : Array Value := #[.string nm, .int .i64 me, .int .i64 pk, .int .i64 sz, .int .i64 sm, .int .i64 at_, .int .i64 hd]
theorem rec_ldE {ops : Array Oper} {rest : List Oper} {op : Oper} {a : Act} {W : World} {Q : Exit → Act → World → Prop} {x : Operand} {nm : ByteArray} {me pk sz sm at_ hd : Int} (hgd : op.guard = none) (ho : op.op = .load 30 x) (b : Nat) (hx : a.eval x = .pointer (some ⟨b, 0, none⟩)) (hh : W.heap[b]? = some (.cells (recE nm me pk sz sm at_ hd) 30 (0, 0)))
    (h : wpList Tryd.prog ops Q rest (a.put op.dst (recV nm me pk sz sm at_ hd)) W) : wpList Tryd.prog ops Q (op :: rest) a W := by
  refine wpList_load_mid hgd 30 x ho b 0 hx (recE nm me pk sz sm at_ hd).toList _ (fun j v hv => ?_) Tryd.underlying30 rfl ?_ (by simpa [recE, recV] using h)
  · rw [Nat.zero_add, blk_cell hh]; simpa using hv
  · kernel_rfl
/-- a record's bytes, whatever their sum -/
def plainS (me pk sz : Int) (l : List Int) : Except Int (List Int) :=
  if me = 0 then (if pk ≠ sz then .error 18 else .ok l) else match inflS l sz with
    | .error e => .error e
    | .ok (b, used) => if (b.length : Int) ≠ sz ∨ used ≠ l.length then .error 18 else .ok b
/-- bytes, if they have that sum -/
def sumS (sm : Int) : Except Int (List Int) → Except Int (List Int)
  | .error e => .error e
  | .ok b => if sumOf 0 b ≠ sm then .error 19 else .ok b
/-- a record's bytes -/
def unpackS (me pk sz sm : Int) (l : List Int) : Except Int (List Int) :=
  if (l.length : Int) ≠ pk ∨ (me ≠ 0 ∧ me ≠ 8) ∨ sz < 0 then .error 1 else if 32768 < sz then .error 17 else sumS sm (plainS me pk sz l)
/-- what Unpack answers -/
def Unp (w : World) (s : Except Int (List Int)) (e : Ending) (w' : World) : Prop :=
  Below w.heap.size w w' ∧ ((∃ b a c, s = .ok b ∧ e = .returned (.tuple #[.slice a b.length c, .int .i64 0]) ∧ Bytes b ∧ b.length ≤ 32768 ∧ w'.ownsRow w.heap.size 5 1 (.slice a b.length c) b.length (b.map (Value.int .u8))) ∨ (∃ er, s = .error er ∧ er ≠ 0 ∧ e = .returned (.tuple #[.slice none 0 0, .int .i64 er])))
theorem i64b {x : Int} (h : 0 ≤ x ∧ x ≤ 32768) : -9223372036854775808 ≤ x ∧ x ≤ 9223372036854775807 := by omega
set_option maxHeartbeats 4000000 in
theorem plain_is (w : World) (a : Option Addr) (n c : Nat) (l : List Int) (hn : l.length = n) (hm : n ≤ 140737488355328) (hb : Bs w w.heap.size a l) (nm : ByteArray) (me pk sz sm at_ hd : Int) (hpk : (l.length : Int) = pk) (hsz : 0 ≤ sz ∧ sz ≤ 32768) (hord : Ord w) :
    Calls Tryd.prog 15 #[recV nm me pk sz sm at_ hd, .slice a n c] w (Unp w (plainS me pk sz l)) := by
  have hnew := heap_alloc_new w (.cells (recE nm me pk sz sm at_ hd) 30)
  have hbel := (Below.refl w.heap.size w).alloc (Nat.le_refl _) (.cells (recE nm me pk sz sm at_ hd) 30)
  unfold recE at hnew hbel
  have hbs := (hb.below hbel).more hbel.size
  have hord1 := hord.below hbel
  have H0 := Lib.hid (And.intro hnew (And.intro hbel (And.intro hbs hord1)))
  clear hb hord hord1 hbs hbel
  unfold recV
  by_cases h0 : me = 0
  · subst h0
    by_cases hps : pk = sz
    · have hcl := clone_any a n c l hn hm _ H0.out.2.2.1
      have hs : plainS 0 pk sz l = .ok l := by unfold plainS; rw [if_pos rfl, if_neg (by simpa using hps)]
      rw [hs]
      subst hps
      have t1 : (pk != pk) = false := by simp
      clear hs
      go_enter Tryd.func15, Tryd.ntmps15
      go_wp2_with fail
      refine hcl.mono ?_
      rintro e w2 ⟨a2, c2, rfl, ho, hb2⟩
      have H2 := Lib.hid (And.intro ho hb2)
      have hL : l.length ≤ 32768 := by omega
      clear hcl ho hb2 hnew
      go_wp2_with fail
      go_ret2
      exact ⟨below_next H0.out.2.1 (Nat.le_refl _) H2.out.2, .inl ⟨l, a2, c2, rfl, by rw [hn]; rfl, H0.out.2.2.1.1, hL, own_base H2.out.1 H0.out.2.1.size⟩⟩
    · have hs : plainS 0 pk sz l = .error 18 := by unfold plainS; rw [if_pos rfl, if_pos hps]
      rw [hs]
      have t1 : (pk != sz) = true := by simp [hps]
      clear hs
      go_enter Tryd.func15, Tryd.ntmps15
      go_wp2_with fail
      go_ret2
      exact ⟨H0.out.2.1, .inr ⟨18, rfl, by decide, rfl⟩⟩
  · have hal := all_is a n c l hn hm H0.out.2.2.1 sz (by omega) H0.out.2.2.2
    have t0 : (me == 0) = false := by simp [h0]
    cases hr : inflS l sz with
    | error er =>
      have hs : plainS me pk sz l = .error er := by unfold plainS; rw [if_neg h0, hr]
      rw [hs]
      rw [hr] at hal
      clear hs hr
      go_enter Tryd.func15, Tryd.ntmps15
      go_wp2_with fail
      refine hal.mono ?_
      intro e w2 h2
      obtain ⟨hb2, hne, rfl⟩ := alls_bad h2 rfl
      have H2 := Lib.hid hb2
      have t2 : (er != 0) = true := by simp [hne]
      clear hal h2 hb2 hnew
      go_wp2_with fail
      go_ret2
      exact ⟨below_next H0.out.2.1 (Nat.le_refl _) H2.out, .inr ⟨er, rfl, hne, rfl⟩⟩
    | ok x =>
      obtain ⟨b, used⟩ := x
      have hs : plainS me pk sz l = if (b.length : Int) ≠ sz ∨ used ≠ l.length then .error 18 else .ok b := by unfold plainS; rw [if_neg h0, hr]
      rw [hs]
      rw [hr] at hal
      clear hs hr
      by_cases hbs : (b.length : Int) = sz
      · by_cases hus : used = l.length
        · rw [if_neg (by simp [hbs, hus])]
          have t3 : ((b.length : Int) != sz) = false := by simp [hbs]
          have t4 : ((used : Int) != (n : Int)) = false := by simp; omega
          have t4' : (used != n) = false := by simp; omega
          go_enter Tryd.func15, Tryd.ntmps15
          go_wp2_with fail
          refine hal.mono ?_
          intro e w2 h2
          obtain ⟨hb2, a2, c2, rfl, hBb, hbl, ho⟩ := alls_ok h2 rfl
          have c3 : w2.cell? ⟨w.heap.size, 3, none⟩ = some (.int .i64 sz) := by rw [blk_cell ((hb2.block w.heap.size (by simp)).trans H0.out.1)]; rfl
          have H2 := Lib.hid (And.intro hb2 (And.intro hBb (And.intro hbl ho)))
          clear hal h2 hb2 hnew hBb hbl ho
          go_wp2_with fail
          go_ret2
          exact ⟨below_next H0.out.2.1 (Nat.le_refl _) H2.out.1, .inl ⟨b, a2, c2, rfl, rfl, H2.out.2.1, H2.out.2.2.1, own_base H2.out.2.2.2 H0.out.2.1.size⟩⟩
        · rw [if_pos (.inr hus)]
          have t3 : ((b.length : Int) != sz) = false := by simp [hbs]
          have t4 : ((used : Int) != (n : Int)) = true := by simp; omega
          have t4' : (used != n) = true := by simp; omega
          go_enter Tryd.func15, Tryd.ntmps15
          go_wp2_with fail
          refine hal.mono ?_
          intro e w2 h2
          obtain ⟨hb2, a2, c2, rfl, hBb, hbl, ho⟩ := alls_ok h2 rfl
          have c3 : w2.cell? ⟨w.heap.size, 3, none⟩ = some (.int .i64 sz) := by rw [blk_cell ((hb2.block w.heap.size (by simp)).trans H0.out.1)]; rfl
          have H2 := Lib.hid hb2
          clear hal h2 hb2 hnew hBb hbl ho
          go_wp2_with fail
          go_ret2
          exact ⟨below_next H0.out.2.1 (Nat.le_refl _) H2.out, .inr ⟨18, rfl, by decide, rfl⟩⟩
      · rw [if_pos (.inl hbs)]
        have t3 : ((b.length : Int) != sz) = true := by simp [hbs]
        go_enter Tryd.func15, Tryd.ntmps15
        go_wp2_with fail
        refine hal.mono ?_
        intro e w2 h2
        obtain ⟨hb2, a2, c2, rfl, hBb, hbl, ho⟩ := alls_ok h2 rfl
        have c3 : w2.cell? ⟨w.heap.size, 3, none⟩ = some (.int .i64 sz) := by rw [blk_cell ((hb2.block w.heap.size (by simp)).trans H0.out.1)]; rfl
        have H2 := Lib.hid hb2
        clear hal h2 hb2 hnew hBb hbl ho
        go_wp2_with fail
        go_ret2
        exact ⟨below_next H0.out.2.1 (Nat.le_refl _) H2.out, .inr ⟨18, rfl, by decide, rfl⟩⟩
def isPartU (i : Nat) : Bool := i == 1
def GLU (vs : List Value) (i : Nat) (v : Value) (w : World) : Prop := bif isPartU i then PartV w (vs.getD 0 undef) v else v = vs.getD i undef
theorem GLU.stab {vs : List Value} (i : Nat) (v : Value) (w w' : World) (h : GLU vs i v w) (hb : Below w.heap.size w w') : GLU vs i v w' := by
  unfold GLU at *
  cases h1 : isPartU i with
  | true => rw [h1] at h; exact PartV.below h hb
  | false => rw [h1] at h; exact h
theorem rec_fa4 (g : Nat) (W : World) : (Instr.fieldAt 30 (.pointer (some ⟨g, 0, none⟩)) 4).run Tryd.prog W = .ok (.pointer (some ⟨g, 4, none⟩)) W := by kernel_rfl
theorem x_neqi {a : Act} {w : World} {o : Oper} {x y : Operand} {p q : Int} {ty : TypeId} (ho : o.op = .binOp .neq 3 x y ty) (hx : a.eval x = .int .i64 p) (hy : a.eval y = .int .i64 q) : (execOp a.eval o).run Tryd.prog w = .ok (.value (.bool (p != q))) w := by
  unfold execOp
  simp only [ho, hx, hy]
  simp [go_sem]
set_option maxHeartbeats 4000000 in
theorem unpack_is (w : World) (a : Option Addr) (n c : Nat) (l : List Int) (hn : l.length = n) (hm : n ≤ 140737488355328) (hb : Bs w w.heap.size a l) (nm : ByteArray) (me pk sz sm at_ hd : Int) (hord : Ord w) :
    Calls Tryd.prog 8 #[recV nm me pk sz sm at_ hd, .slice a n c] w (Unp w (unpackS me pk sz sm l)) := by
  have hnew := heap_alloc_new w (.cells (recE nm me pk sz sm at_ hd) 30)
  have hbel := (Below.refl w.heap.size w).alloc (Nat.le_refl _) (.cells (recE nm me pk sz sm at_ hd) 30)
  have hnew' : (w.alloc (.cells #[.string nm, .int .i64 me, .int .i64 pk, .int .i64 sz, .int .i64 sm, .int .i64 at_, .int .i64 hd] 30)).heap[w.heap.size]? = some (.cells (recE nm me pk sz sm at_ hd) 30 (0, 0)) := hnew
  unfold recE at hnew hbel
  have hbs := (hb.below hbel).more hbel.size
  have hord1 := hord.below hbel
  have H0 := Lib.hid (And.intro hnew (And.intro hbel (And.intro hbs hord1)))
  clear hb hord hord1 hbs hbel
  by_cases hbad : (l.length : Int) ≠ pk ∨ (me ≠ 0 ∧ me ≠ 8) ∨ sz < 0
  · have hs : unpackS me pk sz sm l = .error 1 := if_pos hbad
    rw [hs]
    clear hs hnew'
    have hfin : Unp w (.error 1) (.returned (.tuple #[.slice none 0 0, .int .i64 1])) (w.alloc (.cells #[.string nm, .int .i64 me, .int .i64 pk, .int .i64 sz, .int .i64 sm, .int .i64 at_, .int .i64 hd] 30)) := ⟨H0.out.2.1, .inr ⟨1, rfl, by decide, rfl⟩⟩
    have HF := Lib.hid hfin
    clear hfin
    by_cases hA : (n : Int) = pk
    · have t1 : ((n : Int) != pk) = false := by simp [hA]
      by_cases h0 : me = 0
      · have t2 : (me != 0) = false := by simp [h0]
        have t3 : decide (sz < 0) = true := by simp; omega
        clear h0 hbad hA
        unfold recV
        go_enter Tryd.func8, Tryd.ntmps8
        go_wp2_with fail
        go_ret2
        exact HF.out
      · have t2 : (me != 0) = true := by simp [h0]
        by_cases h8 : me = 8
        · have t4 : (me != 8) = false := by simp [h8]
          have t3 : decide (sz < 0) = true := by simp; omega
          clear h0 hbad hA h8
          unfold recV
          go_enter Tryd.func8, Tryd.ntmps8
          go_wp2_with fail
          go_ret2
          exact HF.out
        · have t4 : (me != 8) = true := by simp [h8]
          clear h0 hbad hA h8
          unfold recV
          go_enter Tryd.func8, Tryd.ntmps8
          go_wp2_with fail
          go_ret2
          exact HF.out
    · have t1 : ((n : Int) != pk) = true := by simp [hA]
      clear hbad hA
      unfold recV
      go_enter Tryd.func8, Tryd.ntmps8
      go_wp2_with fail
      go_ret2
      exact HF.out
  · have hpk : (l.length : Int) = pk := by omega
    have hme : me = 0 ∨ me = 8 := by omega
    have hsz : 0 ≤ sz := by omega
    have t1 : ((n : Int) != pk) = false := by simp; omega
    have t3 : decide (sz < 0) = false := by simp; omega
    by_cases hbig : 32768 < sz
    · have hs : unpackS me pk sz sm l = .error 17 := by unfold unpackS; rw [if_neg hbad, if_pos hbig]
      rw [hs]
      have t5 : decide (sz > 32768) = true := by simp; omega
      have hfin : Unp w (.error 17) (.returned (.tuple #[.slice none 0 0, .int .i64 17])) (w.alloc (.cells #[.string nm, .int .i64 me, .int .i64 pk, .int .i64 sz, .int .i64 sm, .int .i64 at_, .int .i64 hd] 30)) := ⟨H0.out.2.1, .inr ⟨17, rfl, by decide, rfl⟩⟩
      have HF := Lib.hid hfin
      clear hfin hs hbad hpk hsz hnew'
      unfold recV
      rcases hme with rfl | rfl
      · go_enter Tryd.func8, Tryd.ntmps8
        go_wp2_with fail
        go_ret2
        exact HF.out
      · go_enter Tryd.func8, Tryd.ntmps8
        go_wp2_with fail
        go_ret2
        exact HF.out
    · have t5 : decide (sz > 32768) = false := by simp; omega
      have hpl := plain_is _ a n c l hn hm H0.out.2.2.1 nm me pk sz sm at_ hd hpk ⟨hsz, by omega⟩ H0.out.2.2.2
      have hs : unpackS me pk sz sm l = sumS sm (plainS me pk sz l) := by unfold unpackS; rw [if_neg hbad, if_neg hbig]
      rw [hs]
      generalize plainS me pk sz l = r at *
      clear hs hbad hpk hsz hbig
      have HN := Lib.hid hnew'
      cases r with
      | error er =>
        show Calls _ _ _ _ (Unp w (.error er))
        rcases hme with rfl | rfl
        all_goals
          clear hnew'
          have hpl := hpl
          unfold recV
          go_enter Tryd.func8, Tryd.ntmps8
          go_wp2_with (refine rec_ldE rfl rfl w.heap.size rfl HN.out ?_)
          refine hpl.mono ?_
          rintro e w2 ⟨hb2, ⟨b, a2, c2, h1, _⟩ | ⟨er', h1, hne, rfl⟩⟩
          · cases h1
          injection h1 with h1
          subst h1
          have t6 : (er != 0) = true := by simp [hne]
          have H2 := Lib.hid hb2
          clear hpl hb2 hnew
          go_wp2_with fail
          go_ret2
          exact ⟨below_next H0.out.2.1 (Nat.le_refl _) H2.out, .inr ⟨er, rfl, hne, rfl⟩⟩
      | ok b =>
        obtain ⟨sb, hsb⟩ : ∃ sb, sumOf 0 b = sb := ⟨_, rfl⟩
        have hs2 : sumS sm (.ok b) = if sb ≠ sm then .error 19 else .ok b := by rw [← hsb]; rfl
        rw [hs2]
        obtain ⟨R, hR⟩ : ∃ R, (if sb ≠ sm then .error 19 else .ok b : Except Int (List Int)) = R := ⟨_, rfl⟩
        rw [hR]
        have HSB := Lib.hid hsb
        have HR := Lib.hid hR
        clear hs2 hsb hR
        rcases hme with rfl | rfl
        all_goals
          clear hnew'
          have hpl := hpl
          unfold recV
          go_enter Tryd.func8, Tryd.ntmps8
          go_wp2_with (refine rec_ldE rfl rfl w.heap.size rfl HN.out ?_)
          refine hpl.mono ?_
          rintro e w2 ⟨hb2, ⟨b', a2, c2, h1, rfl, hB, hbl, ho⟩ | ⟨er', h1, hne, rfl⟩⟩
          rotate_left
          · cases h1
          injection h1 with h1
          subst h1
          have hr2 := (hb2.block w.heap.size (by simp)).trans H0.out.1
          have hbb := Bs.of_own ho hB
          have hw2 : Below w.heap.size w w2 := below_next H0.out.2.1 (Nat.le_refl _) hb2
          have HB := Lib.hid (And.intro hw2 (And.intro hbb (And.intro hB (And.intro hbl (And.intro ho hr2)))))
          have hbm : b.length ≤ 140737488355328 := by omega
          have hlb : w.heap.size < w2.heap.size := blk_lt hr2
          clear hpl hb2 hnew hB hbl ho hbb hw2
          go_upto_region 8 with (fail)
          rename_i hK
          refine wp_region_inv (C := fun W => Below w2.heap.size w2 W) (G := GLU [.slice a2 b.length c2, .slice none 0 0, .int .i64 sb, .pointer (some ⟨w.heap.size, 4, none⟩), .int .i64 sm, .bool (sb != sm)]) (R := fun w w' => Below w.heap.size w w') (by kernel_rfl) (ordB_spec (by kernel_rfl)) (dstB_spec (by kernel_rfl)) (inB_spec (by kernel_rfl)) ⟨rfl, rfl, rfl, Nat.le_refl _, fun _ _ => rfl⟩ GLU.stab ?step ?fin
          case step =>
            intro i o a1 w3 ho hC hdep hsame
            have hsz := hC.size
            have hlt6 : i < 6 := lt_of_some ho
            match i, hlt6, ho with
            | 0, _, ho =>
              obtain rfl := Option.some.inj ho
              exact step_pure ho rfl (x_move (v := .slice a2 b.length c2) rfl (hsame 6 (notB_spec (by kernel_rfl)))) rfl hC (Below.refl _ _)
            | 1, _, ho =>
              obtain rfl := Option.some.inj ho
              have h1 : a1.eval (.tmp 40) = .slice a2 b.length c2 := hdep ⟨0, .data⟩ (by simp) rfl _ _ rfl rfl
              exact step_mem ho rfl (x_lit rfl h1) (PartV.new w3 (.slice a2 b.length c2) _) (hC.alloc hsz _) ((Below.refl _ _).alloc (Nat.le_refl _) _)
            | 2, _, ho =>
              obtain rfl := Option.some.inj ho
              have h1 : PartV w3 (.slice a2 b.length c2) (a1.eval (.tmp 41)) := hdep ⟨1, .data⟩ (by simp) rfl _ _ rfl rfl
              exact step_call ho rfl (x_call rfl) ((h1.call ((HB.out.2.1.below hC).more hsz) rfl hbm).mono fun e w' hh => ⟨by rw [hh.1, HSB.out]; rfl, rfl, hC.trans (hh.2.mono hsz), hh.2⟩)
            | 3, _, ho =>
              obtain rfl := Option.some.inj ho
              exact step_pure ho rfl (y_field rfl (hsame 2 (notB_spec (by kernel_rfl))) (rec_fa4 w.heap.size w3)) rfl hC (Below.refl _ _)
            | 4, _, ho =>
              obtain rfl := Option.some.inj ho
              have h1 : a1.eval (.tmp 43) = .pointer (some ⟨w.heap.size, 4, none⟩) := hdep ⟨3, .data⟩ (by simp) rfl _ _ rfl rfl
              exact step_pure ho rfl (y_load rfl h1 (y_ld3 w.heap.size 4 _ (.int .i64 sm) w3 (by kernel_rfl) (by rw [blk_cell ((hC.block _ hlb).trans hr2)]; rfl))) rfl hC (Below.refl _ _)
            | 5, _, ho =>
              obtain rfl := Option.some.inj ho
              have h1 : a1.eval (.tmp 42) = .int .i64 sb := hdep ⟨2, .data⟩ (by simp) rfl _ _ rfl rfl
              have h2 : a1.eval (.tmp 44) = .int .i64 sm := hdep ⟨4, .data⟩ (by simp) rfl _ _ rfl rfl
              exact step_pure ho rfl (x_neqi rfl h1 h2) rfl hC (Below.refl _ _)
            | n + 6, h, _ => exact absurd h (by omega)
          case fin =>
            intro a1 w3 hC hgood hsame hsize hdef
            refine hK _ _ ?_
            have h45 : a1.eval (.tmp 45) = .bool (sb != sm) := hgood 5 _ _ rfl rfl
            have hact := act_of_same [0, 1, 2, 3, 4, 5, 6, 7, 8, 9, 10, 11, 12, 13, 14, 15, 16, 17, 18, 19, 20, 21, 22, 23, 24, 25, 26, 27, 28, 29, 30, 31, 32, 33, 34, 35, 36, 37, 38, 39, 40, 41, 42, 43, 44, 45, 46] (fun t => decide (40 ≤ t ∧ t ≤ 45)) (by kernel_rfl) (fun t ht => hsame t (wrB_spec (wr := fun t => decide (40 ≤ t ∧ t ≤ 45)) (by kernel_rfl) ht)) hsize hdef
            have hw3 := below_next HB.out.1 (Nat.le_refl _) hC
            have ho3 := own_below HB.out.2.2.2.2.1 hC
            have HC := Lib.hid (And.intro hw3 (And.intro ho3 (And.intro HB.out.2.2.1 HB.out.2.2.2.1)))
            generalize a1.eval = f at hact h45
            simp only [List.map_cons, List.map_nil] at hact
            simp [Act.eval] at hact
            rw [h45] at hact
            generalize f (.tmp 40) = v40 at hact
            generalize f (.tmp 41) = v41 at hact
            generalize f (.tmp 42) = v42 at hact
            generalize f (.tmp 43) = v43 at hact
            generalize f (.tmp 44) = v44 at hact
            clear hgood hsame hsize hdef hC hw3 ho3 h45
            rw [hact]
            clear hact
            by_cases hss : sb = sm
            · have t6 : (sb != sm) = false := by simp [hss]
              have hRb : R = .ok b := by rw [← HR.out]; exact if_neg (by simpa using hss)
              have HRB := Lib.hid hRb
              rw [t6]
              clear hss t6 HR hRb
              go_wp2_with fail
              go_ret2
              exact ⟨HC.out.1, .inl ⟨b, a2, c2, HRB.out, rfl, HC.out.2.2.1, HC.out.2.2.2, own_base HC.out.2.1 (by have := H0.out.2.1.size; omega)⟩⟩
            · have t6 : (sb != sm) = true := by simp [hss]
              have hRb : R = .error 19 := by rw [← HR.out]; exact if_pos hss
              have HRB := Lib.hid hRb
              rw [t6]
              clear hss t6 HR hRb
              go_wp2_with fail
              go_ret2
              exact ⟨HC.out.1, .inr ⟨19, HRB.out, by decide, rfl⟩⟩
end Go.Proofs.YtdcpibglbanchaaDoor
