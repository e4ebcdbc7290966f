/- The document's own unpacker in memory: its reader and the row that it lays; taking, and the next symbol, in the words of takeS and nxS. No condition but what the words say. -/
import Derived.Test.YthfhafnffeijpaaGreatDoorLl
set_option linter.unusedVariables false
set_option maxRecDepth 100000
namespace Go.Proofs.YthfhafnffeijpaaGreatDoor
open Go.RowKit

/-- a row that the call made itself, of whatever ints -/
def OwnT (T : TypeId) (k : IntKind) (w : World) (base : Nat) (v : Value) (l : List Int) : Prop := ∃ a c, v = .slice a l.length c ∧ w.ownsRow base T 1 (.slice a l.length c) l.length (l.map (Value.int k))
section
variable {T : TypeId} {k : IntKind} {w w' : World} {base n : Nat} {v : Value} {l : List Int}
theorem OwnT.nil (w : World) (base : Nat) : OwnT T k w base (.slice none 0 0) [] := ⟨none, 0, rfl, World.ownsRow_nil _ _ _ _⟩
theorem ownT_mk (h : w.ownsRow base T 1 v n (l.map (Value.int k))) (hn : n = l.length) : OwnT T k w base v l := by
  subst hn
  obtain ⟨a, c, rfl⟩ := own_shape h
  exact ⟨a, c, rfl, h⟩
theorem OwnT.lt (h : OwnT T k w base v l) : ∀ q, v.ownBlock = some q → base ≤ q ∧ q < w.heap.size := by
  obtain ⟨a, c, rfl, h⟩ := h
  exact h.lt
theorem OwnT.below (h : OwnT T k w base v l) (hb : Below w.heap.size w w') : OwnT T k w' base v l := by
  obtain ⟨a, c, rfl, h⟩ := h
  exact ⟨a, c, rfl, own_below h hb⟩
theorem OwnT.kept {r : Option Nat} (h : OwnT T k w base v l) (hg : w.grownBy w' r) (hne : v.ownBlock = none ∨ v.ownBlock ≠ r) : OwnT T k w' base v l := by
  obtain ⟨a, c, rfl, h⟩ := h
  exact ⟨a, c, rfl, h.kept hg hne⟩
theorem OwnT.alloc (h : OwnT T k w base v l) (o : Obj) : OwnT T k (w.alloc o) base v l := by
  obtain ⟨a, c, rfl, h⟩ := h
  exact ⟨a, c, rfl, h.alloc o⟩
theorem OwnT.down {base' : Nat} (h : OwnT T k w base v l) (hb : base' ≤ base) : OwnT T k w base' v l := by
  obtain ⟨a, c, rfl, h⟩ := h
  exact ⟨a, c, rfl, own_base h hb⟩
theorem OwnT.is {a : Option Addr} {n c : Nat} (h : OwnT T k w base (.slice a n c) l) : n = l.length ∧ w.ownsRow base T 1 (.slice a n c) n (l.map (Value.int k)) := by
  obtain ⟨a', c', e, h⟩ := h
  injection e with e1 e2 e3
  subst e1 e2 e3
  exact ⟨rfl, h⟩
end
/-- the reader at the bit p, the row out behind v; beside them and what v0 lay in nothing of w0 has turned -/
structure RS (T : TypeId) (k : IntKind) (w0 : World) (base g : Nat) (v0 : Value) (l : List Int) (w : World) (p : Nat) (v : Value) (out : List Int) : Prop where
  rdr : Rdr 47 w g l p
  own : OwnT T k w base v out
  foot : Foot (fun i => i = g ∨ v0.ownBlock = some i) w0 w
  new : ∀ q, v.ownBlock = some q → v0.ownBlock = some q ∨ w0.heap.size ≤ q
  up : g < base
  low : base ≤ w0.heap.size
section
variable {T : TypeId} {k : IntKind} {w0 w w' : World} {base g : Nat} {v0 v v' : Value} {l out x : List Int} {p p' n : Nat}
theorem RS.size (h : RS T k w0 base g v0 l w p v out) : w0.heap.size ≤ w.heap.size := h.foot.size
theorem RS.inl (h : RS T k w0 base g v0 l w p v out) : p ≤ 8 * l.length := h.rdr.choose_spec.choose_spec.2.2.2.2.1
theorem RS.only (h : RS T k w0 base g v0 l w p v out) (ho : Only g w w') (hr : Rdr 47 w' g l p') : RS T k w0 base g v0 l w' p' v out :=
  ⟨hr, h.own.kept ho (.inr fun e => by have := (h.own.lt g e).1; have := h.up; omega), h.foot.grown ho (fun q e => by injection e with e; exact .inl (.inl e.symm)), h.new, h.up, h.low⟩
theorem rdr_low' {w w' : World} {B : Nat} (h : Rdr 47 w g l p) (hb : Below B w w') (hB : g < B) : Rdr 47 w' g l p := by
  obtain ⟨a, c, q1, q2, q3, q4, q5, q6⟩ := h
  exact ⟨a, c, (hb.block g hB).trans q1, q2, q3, q4.keep fun q hq => cell_keep' (hb.block _ (by omega)), q5, q6⟩
theorem RS.below (h : RS T k w0 base g v0 l w p v out) (hb : Below w.heap.size w w') : RS T k w0 base g v0 l w' p v out :=
  ⟨rdr_low' h.rdr hb (by have := h.up; have := h.low; have := h.size; omega), h.own.below hb, h.foot.trans2 (Foot.of_below (F := fun _ => False) hb) (fun i hi => hi.elim), h.new, h.up, h.low⟩
theorem RS.grown (h : RS T k w0 base g v0 l w p v out) (ho : w'.ownsRow base T 1 v' n ((out ++ x).map (Value.int k))) (hn : n = (out ++ x).length) (hg : w.grownBy w' v.ownBlock) (hl : v'.ownBlock = v.ownBlock ∨ v'.ownBlock = some w.heap.size) : RS T k w0 base g v0 l w' p v' (out ++ x) := by
  have hbel : Below base w w' := ⟨hg.os, hg.tape, hg.output, hg.size, fun i hi => hg.block i (by have := h.low; have := h.size; omega) (fun e => by have := (h.own.lt i e.symm).1; omega)⟩
  refine ⟨rdr_low' h.rdr hbel h.up, ownT_mk ho hn, h.foot.grown hg (fun q e => ?_), fun q e => ?_, h.up, h.low⟩
  · rcases h.new q e with h1 | h1
    · exact .inl (.inr h1)
    · exact .inr h1
  · rcases hl with hl | hl
    · exact h.new q (by rw [← hl]; exact e)
    · rw [hl] at e; injection e with e; exact .inr (by have := h.size; omega)
theorem RS.keep (h : RS T k w0 base g v0 l w p v out) {b : Nat} (hb : b < w0.heap.size) (h1 : b ≠ g) (h2 : v0.ownBlock ≠ some b) : w.heap[b]? = w0.heap[b]? := h.foot.block b hb (by rintro (e | e); { exact h1 e }; { exact h2 e })

theorem takeR_ok {n : Nat} {v : Int} (hn : n ≤ 16) (h : Rdr 47 w g l p) (hs : takeS l p n = .ok (v, p')) :
    Calls Tryz.prog 21 #[.pointer (some ⟨g, 0, none⟩), .int .i64 n] w fun e w' => e = .returned (.tuple #[.int .i64 v, .int .i64 0]) ∧ Rdr 47 w' g l p' ∧ Only g w w' := by
  obtain ⟨rfl, rfl, h1⟩ := takeS_val hs
  obtain ⟨e1, e2, e3⟩ := t_ok (l := l) (p := p) (m := n) hn h1
  have := refTake (n : Int) (by omega) h
  rw [e1, e2, e3] at this
  exact this
theorem takeR_bad {n : Nat} {er : Int} (hn : n ≤ 16) (h : Rdr 47 w g l p) (hs : takeS l p n = .error er) :
    Calls Tryz.prog 21 #[.pointer (some ⟨g, 0, none⟩), .int .i64 n] w fun e w' => e = .returned (.tuple #[.int .i64 0, .int .i64 er]) ∧ er ≠ 0 ∧ Rdr 47 w' g l p ∧ Only g w w' := by
  unfold takeS at hs
  split at hs
  · cases hs
  · rename_i h1
    injection hs with hs
    subst hs
    obtain ⟨e1, e2, e3⟩ := t_short (l := l) (p := p) (n := (n : Int)) (by omega) (by omega)
    have := refTake (n : Int) (by omega) h
    rw [e1, e2, e3] at this
    exact this.mono fun e w' h => ⟨h.1, by decide, h.2⟩
theorem nxtR_ok {F : Nat → Prop} {ns : List Nat} {cs : Array Value} {v : Int} (hF : ∀ b, F b → b < w.heap.size ∧ b ≠ g) (h : Cd w F ns cs) (hall : ∀ n ∈ ns, n ≤ 15) (hk : kraft ns ≤ 2 ^ 15) (hr : Rdr 47 w g l p) (hs : nxS ns l p = .ok (v, p')) :
    Calls Tryz.prog 43 #[.agg cs, .pointer (some ⟨g, 0, none⟩)] w fun e w' => e = .returned (.tuple #[.int .i64 v, .int .i64 0]) ∧ Rdr 47 w' g l p' ∧ Only g w w' := by
  unfold nxS at hs
  split at hs
  · rename_i h0
    injection hs with hs
    injection hs with h1 h2
    subst h1 h2
    have := refNext hF h hall hk hr
    rw [h0] at this
    exact this
  · cases hs
theorem nxtR_bad {F : Nat → Prop} {ns : List Nat} {cs : Array Value} {er : Int} (hF : ∀ b, F b → b < w.heap.size ∧ b ≠ g) (h : Cd w F ns cs) (hall : ∀ n ∈ ns, n ≤ 15) (hk : kraft ns ≤ 2 ^ 15) (hr : Rdr 47 w g l p) (hs : nxS ns l p = .error er) :
    Calls Tryz.prog 43 #[.agg cs, .pointer (some ⟨g, 0, none⟩)] w fun e w' => ∃ y p', e = .returned (.tuple #[.int .i64 y, .int .i64 er]) ∧ er ≠ 0 ∧ Rdr 47 w' g l p' ∧ Only g w w' := by
  have hne := nxS_bad hs
  unfold nxS at hs
  split at hs
  · cases hs
  · injection hs with hs
    subst hs
    exact (refNext hF h hall hk hr).mono fun e w' h => ⟨_, _, h.1, hne, h.2⟩
end
/-- the least length and the further bits of a symbol -/
def LN (s : Nat) : Nat := if s = 285 then 258 else leastL (s - 257)
def MN (s : Nat) : Nat := if s = 285 then 0 else moreL (s - 257)
theorem refLen (s : Nat) (h0 : 257 ≤ s) (h1 : s ≤ 285) (w : World) : Calls Tryz.prog 44 #[.int .i64 s] w fun e w' => e = .returned (.tuple #[.int .i64 (LN s), .int .i64 (MN s)]) ∧ w = w' := by
  by_cases h : s = 285
  · subst h
    go_enter Tryz.func44, Tryz.ntmps44
    go_wp2_with fail
    go_ret2
    exact ⟨rfl, rfl⟩
  · have := refLength s h0 (by omega) w
    unfold LN MN
    rw [if_neg h, if_neg h]
    exact this
theorem lenS_is {l : List Int} {p s : Nat} (hp : p ≤ 8 * l.length) (h0 : 257 ≤ s) (h1 : s ≤ 285) : lenS l p (s : Int) = match takeS l p (MN s) with | .error e => .error e | .ok (v, p1) => .ok ((LN s : Int) + v, p1) := by
  unfold lenS
  rw [if_neg (by omega)]
  by_cases h : s = 285
  · rw [if_pos (by omega)]
    have e : MN s = 0 := if_pos h
    have e2 : LN s = 258 := if_pos h
    rw [e, e2, takeS_ok (by omega), tk_zero]; rfl
  · rw [if_neg (by omega)]
    have e : MN s = moreL (s - 257) := if_neg h
    have e2 : LN s = leastL (s - 257) := if_neg h
    rw [e, e2, show ((s : Int) - 257).toNat = s - 257 by omega]
    cases takeS l p (moreL (s - 257)) with
    | error e => rfl
    | ok x => obtain ⟨v, p1⟩ := x; rfl
theorem disS_any (nd : List Nat) (l : List Int) (p : Nat) : disS nd l p = match nxS nd l p with | .error e => .error e | .ok (t, p1) => if 29 < t then .error 6 else match takeS l p1 (moreD t.toNat) with | .error e => .error e | .ok (v, p2) => .ok ((leastD t.toNat : Int) + v, p2) := by
  unfold disS
  cases nxS nd l p with
  | error e => rfl
  | ok x =>
    obtain ⟨t, p1⟩ := x
    simp only [bind, Except.bind]
    by_cases h : 29 < t
    · rw [if_pos h, if_pos h]
    · rw [if_neg h, if_neg h]
      cases takeS l p1 (moreD t.toNat) with
      | error e => rfl
      | ok y => obtain ⟨v, p2⟩ := y; rfl
theorem errN_zr {q : List Int} {lone : Bool} (h : errN q lone = 0) : q.length ≤ 288 ∧ inR q = true ∧ okN (nsOf q) lone = true := by
  unfold errN at h
  by_cases h1 : 288 < q.length
  · rw [if_pos h1] at h; cases h
  · rw [if_neg h1] at h
    cases h2 : inR q with
    | false => rw [h2] at h; cases h
    | true =>
      rw [h2] at h
      cases h3 : okN (nsOf q) lone with
      | true => exact ⟨by omega, rfl, rfl⟩
      | false => rw [h3] at h; simp at h
theorem least_bd : ∀ s, s ≤ 285 → MN s ≤ 5 ∧ LN s ≤ 258 := by decide
theorem leastD_bd : ∀ j, j ≤ 29 → moreD j ≤ 13 ∧ 1 ≤ leastD j ∧ leastD j ≤ 24577 := by decide
end Go.Proofs.YthfhafnffeijpaaGreatDoor
