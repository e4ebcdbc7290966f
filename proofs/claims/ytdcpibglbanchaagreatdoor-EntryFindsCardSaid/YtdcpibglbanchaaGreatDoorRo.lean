/- The document's own unpacker in memory: its reader and the row that it lays; taking, and the next symbol, in the words of takeS and nxS. No condition but what the words say. The document's own fixed lengths: contract of samovarref06.fixed. No condition. A block's symbols as the document unpacks them: contract of samovarref06.symbols, what symsS says. No condition but what the words say. The lengths of a block that tells them, as the document reads them: contract of samovarref06.told, what toldS says. No condition but what the words say. -/
import Derived.Test.YtdcpibglbanchaaGreatDoorLl
set_option linter.unusedVariables false
set_option maxRecDepth 100000
namespace Go.Proofs.YtdcpibglbanchaaGreatDoor
open Go.RowKit

/-- a row that the call made itself, of whatever ints -/
def OwnT (T : TypeId) (k : IntKind) (w : World) (base : Nat) (v : Value) (l : List Int) : Prop := ∃ a c, v = .slice a l.length c ∧ w.ownsRow base T 1 (.slice a l.length c) l.length (l.map (Value.int k))
section
variable {T : TypeId} {k : IntKind} {w w' : World} {base n : Nat} {v : Value} {l : List Int}
theorem OwnT.nil (w : World) (base : Nat) : OwnT T k w base (.slice none 0 0) [] := ⟨none, 0, rfl, World.ownsRow_nil _ _ _ _⟩
theorem ownT_mk (h : w.ownsRow base T 1 v n (l.map (Value.int k))) (hn : n = l.length) : OwnT T k w base v l := by
  subst hn
  obtain ⟨a, c, rfl⟩ := own_shape h
  exact ⟨a, c, rfl, h⟩
theorem OwnT.lt (h : OwnT T k w base v l) : ∀ q, v.ownBlock = some q → base ≤ q ∧ q < w.heap.size := by
  obtain ⟨a, c, rfl, h⟩ := h
  exact h.lt
theorem OwnT.below (h : OwnT T k w base v l) (hb : Below w.heap.size w w') : OwnT T k w' base v l := by
  obtain ⟨a, c, rfl, h⟩ := h
  exact ⟨a, c, rfl, own_below h hb⟩
theorem OwnT.kept {r : Option Nat} (h : OwnT T k w base v l) (hg : w.grownBy w' r) (hne : v.ownBlock = none ∨ v.ownBlock ≠ r) : OwnT T k w' base v l := by
  obtain ⟨a, c, rfl, h⟩ := h
  exact ⟨a, c, rfl, h.kept hg hne⟩
theorem OwnT.alloc (h : OwnT T k w base v l) (o : Obj) : OwnT T k (w.alloc o) base v l := by
  obtain ⟨a, c, rfl, h⟩ := h
  exact ⟨a, c, rfl, h.alloc o⟩
theorem OwnT.down {base' : Nat} (h : OwnT T k w base v l) (hb : base' ≤ base) : OwnT T k w base' v l := by
  obtain ⟨a, c, rfl, h⟩ := h
  exact ⟨a, c, rfl, own_base h hb⟩
theorem OwnT.is {a : Option Addr} {n c : Nat} (h : OwnT T k w base (.slice a n c) l) : n = l.length ∧ w.ownsRow base T 1 (.slice a n c) n (l.map (Value.int k)) := by
  obtain ⟨a', c', e, h⟩ := h
  injection e with e1 e2 e3
  subst e1 e2 e3
  exact ⟨rfl, h⟩
end
/-- the reader at the bit p, the row out behind v; beside them and what v0 lay in nothing of w0 has turned -/
structure RS (T : TypeId) (k : IntKind) (w0 : World) (base g : Nat) (v0 : Value) (l : List Int) (w : World) (p : Nat) (v : Value) (out : List Int) : Prop where
  rdr : Rdr 136 w g l p
  own : OwnT T k w base v out
  foot : Foot (fun i => i = g ∨ v0.ownBlock = some i) w0 w
  new : ∀ q, v.ownBlock = some q → v0.ownBlock = some q ∨ w0.heap.size ≤ q
  up : g < base
  low : base ≤ w0.heap.size
section
variable {T : TypeId} {k : IntKind} {w0 w w' : World} {base g : Nat} {v0 v v' : Value} {l out x : List Int} {p p' n : Nat}
theorem RS.size (h : RS T k w0 base g v0 l w p v out) : w0.heap.size ≤ w.heap.size := h.foot.size
theorem RS.inl (h : RS T k w0 base g v0 l w p v out) : p ≤ 8 * l.length := h.rdr.choose_spec.choose_spec.2.2.2.2.1
theorem RS.only (h : RS T k w0 base g v0 l w p v out) (ho : Only g w w') (hr : Rdr 136 w' g l p') : RS T k w0 base g v0 l w' p' v out :=
  ⟨hr, h.own.kept ho (.inr fun e => by have := (h.own.lt g e).1; have := h.up; omega), h.foot.grown ho (fun q e => by injection e with e; exact .inl (.inl e.symm)), h.new, h.up, h.low⟩
theorem rdr_low' {w w' : World} {B : Nat} (h : Rdr 136 w g l p) (hb : Below B w w') (hB : g < B) : Rdr 136 w' g l p := by
  obtain ⟨a, c, q1, q2, q3, q4, q5, q6⟩ := h
  exact ⟨a, c, (hb.block g hB).trans q1, q2, q3, q4.keep fun q hq => cell_keep' (hb.block _ (by omega)), q5, q6⟩
theorem RS.below (h : RS T k w0 base g v0 l w p v out) (hb : Below w.heap.size w w') : RS T k w0 base g v0 l w' p v out :=
  ⟨rdr_low' h.rdr hb (by have := h.up; have := h.low; have := h.size; omega), h.own.below hb, h.foot.trans2 (Foot.of_below (F := fun _ => False) hb) (fun i hi => hi.elim), h.new, h.up, h.low⟩
theorem RS.grown (h : RS T k w0 base g v0 l w p v out) (ho : w'.ownsRow base T 1 v' n ((out ++ x).map (Value.int k))) (hn : n = (out ++ x).length) (hg : w.grownBy w' v.ownBlock) (hl : v'.ownBlock = v.ownBlock ∨ v'.ownBlock = some w.heap.size) : RS T k w0 base g v0 l w' p v' (out ++ x) := by
  have hbel : Below base w w' := ⟨hg.os, hg.tape, hg.output, hg.size, fun i hi => hg.block i (by have := h.low; have := h.size; omega) (fun e => by have := (h.own.lt i e.symm).1; omega)⟩
  refine ⟨rdr_low' h.rdr hbel h.up, ownT_mk ho hn, h.foot.grown hg (fun q e => ?_), fun q e => ?_, h.up, h.low⟩
  · rcases h.new q e with h1 | h1
    · exact .inl (.inr h1)
    · exact .inr h1
  · rcases hl with hl | hl
    · exact h.new q (by rw [← hl]; exact e)
    · rw [hl] at e; injection e with e; exact .inr (by have := h.size; omega)
theorem RS.keep (h : RS T k w0 base g v0 l w p v out) {b : Nat} (hb : b < w0.heap.size) (h1 : b ≠ g) (h2 : v0.ownBlock ≠ some b) : w.heap[b]? = w0.heap[b]? := h.foot.block b hb (by rintro (e | e); { exact h1 e }; { exact h2 e })

theorem takeR_ok {n : Nat} {v : Int} (hn : n ≤ 16) (h : Rdr 136 w g l p) (hs : takeS l p n = .ok (v, p')) :
    Calls Tryz.prog 84 #[.pointer (some ⟨g, 0, none⟩), .int .i64 n] w fun e w' => e = .returned (.tuple #[.int .i64 v, .int .i64 0]) ∧ Rdr 136 w' g l p' ∧ Only g w w' := by
  obtain ⟨rfl, rfl, h1⟩ := takeS_val hs
  obtain ⟨e1, e2, e3⟩ := t_ok (l := l) (p := p) (m := n) hn h1
  have := refTake (n : Int) (by omega) h
  rw [e1, e2, e3] at this
  exact this
theorem takeR_bad {n : Nat} {er : Int} (hn : n ≤ 16) (h : Rdr 136 w g l p) (hs : takeS l p n = .error er) :
    Calls Tryz.prog 84 #[.pointer (some ⟨g, 0, none⟩), .int .i64 n] w fun e w' => e = .returned (.tuple #[.int .i64 0, .int .i64 er]) ∧ er ≠ 0 ∧ Rdr 136 w' g l p ∧ Only g w w' := by
  unfold takeS at hs
  split at hs
  · cases hs
  · rename_i h1
    injection hs with hs
    subst hs
    obtain ⟨e1, e2, e3⟩ := t_short (l := l) (p := p) (n := (n : Int)) (by omega) (by omega)
    have := refTake (n : Int) (by omega) h
    rw [e1, e2, e3] at this
    exact this.mono fun e w' h => ⟨h.1, by decide, h.2⟩
theorem nxtR_ok {F : Nat → Prop} {ns : List Nat} {cs : Array Value} {v : Int} (hF : ∀ b, F b → b < w.heap.size ∧ b ≠ g) (h : Cd w F ns cs) (hall : ∀ n ∈ ns, n ≤ 15) (hk : kraft ns ≤ 2 ^ 15) (hr : Rdr 136 w g l p) (hs : nxS ns l p = .ok (v, p')) :
    Calls Tryz.prog 111 #[.agg cs, .pointer (some ⟨g, 0, none⟩)] w fun e w' => e = .returned (.tuple #[.int .i64 v, .int .i64 0]) ∧ Rdr 136 w' g l p' ∧ Only g w w' := by
  unfold nxS at hs
  split at hs
  · rename_i h0
    injection hs with hs
    injection hs with h1 h2
    subst h1 h2
    have := refNext hF h hall hk hr
    rw [h0] at this
    exact this
  · cases hs
theorem nxtR_bad {F : Nat → Prop} {ns : List Nat} {cs : Array Value} {er : Int} (hF : ∀ b, F b → b < w.heap.size ∧ b ≠ g) (h : Cd w F ns cs) (hall : ∀ n ∈ ns, n ≤ 15) (hk : kraft ns ≤ 2 ^ 15) (hr : Rdr 136 w g l p) (hs : nxS ns l p = .error er) :
    Calls Tryz.prog 111 #[.agg cs, .pointer (some ⟨g, 0, none⟩)] w fun e w' => ∃ y p', e = .returned (.tuple #[.int .i64 y, .int .i64 er]) ∧ er ≠ 0 ∧ Rdr 136 w' g l p' ∧ Only g w w' := by
  have hne := nxS_bad hs
  unfold nxS at hs
  split at hs
  · cases hs
  · injection hs with hs
    subst hs
    exact (refNext hF h hall hk hr).mono fun e w' h => ⟨_, _, h.1, hne, h.2⟩
end
/-- the least length and the further bits of a symbol -/
def LN (s : Nat) : Nat := if s = 285 then 258 else leastL (s - 257)
def MN (s : Nat) : Nat := if s = 285 then 0 else moreL (s - 257)
theorem refLen (s : Nat) (h0 : 257 ≤ s) (h1 : s ≤ 285) (w : World) : Calls Tryz.prog 112 #[.int .i64 s] w fun e w' => e = .returned (.tuple #[.int .i64 (LN s), .int .i64 (MN s)]) ∧ w = w' := by
  by_cases h : s = 285
  · subst h
    go_enter Tryz.func112, Tryz.ntmps112
    go_wp2_with fail
    go_ret2
    exact ⟨rfl, rfl⟩
  · have := refLength s h0 (by omega) w
    unfold LN MN
    rw [if_neg h, if_neg h]
    exact this
theorem lenS_is {l : List Int} {p s : Nat} (hp : p ≤ 8 * l.length) (h0 : 257 ≤ s) (h1 : s ≤ 285) : lenS l p (s : Int) = match takeS l p (MN s) with | .error e => .error e | .ok (v, p1) => .ok ((LN s : Int) + v, p1) := by
  unfold lenS
  rw [if_neg (by omega)]
  by_cases h : s = 285
  · rw [if_pos (by omega)]
    have e : MN s = 0 := if_pos h
    have e2 : LN s = 258 := if_pos h
    rw [e, e2, takeS_ok (by omega), tk_zero]; rfl
  · rw [if_neg (by omega)]
    have e : MN s = moreL (s - 257) := if_neg h
    have e2 : LN s = leastL (s - 257) := if_neg h
    rw [e, e2, show ((s : Int) - 257).toNat = s - 257 by omega]
    cases takeS l p (moreL (s - 257)) with
    | error e => rfl
    | ok x => obtain ⟨v, p1⟩ := x; rfl
theorem disS_any (nd : List Nat) (l : List Int) (p : Nat) : disS nd l p = match nxS nd l p with | .error e => .error e | .ok (t, p1) => if 29 < t then .error 6 else match takeS l p1 (moreD t.toNat) with | .error e => .error e | .ok (v, p2) => .ok ((leastD t.toNat : Int) + v, p2) := by
  unfold disS
  cases nxS nd l p with
  | error e => rfl
  | ok x =>
    obtain ⟨t, p1⟩ := x
    simp only [bind, Except.bind]
    by_cases h : 29 < t
    · rw [if_pos h, if_pos h]
    · rw [if_neg h, if_neg h]
      cases takeS l p1 (moreD t.toNat) with
      | error e => rfl
      | ok y => obtain ⟨v, p2⟩ := y; rfl
theorem errN_zr {q : List Int} {lone : Bool} (h : errN q lone = 0) : q.length ≤ 288 ∧ inR q = true ∧ okN (nsOf q) lone = true := by
  unfold errN at h
  by_cases h1 : 288 < q.length
  · rw [if_pos h1] at h; cases h
  · rw [if_neg h1] at h
    cases h2 : inR q with
    | false => rw [h2] at h; cases h
    | true =>
      rw [h2] at h
      cases h3 : okN (nsOf q) lone with
      | true => exact ⟨by omega, rfl, rfl⟩
      | false => rw [h3] at h; simp at h
theorem least_bd : ∀ s, s ≤ 285 → MN s ≤ 5 ∧ LN s ≤ 258 := by decide
theorem leastD_bd : ∀ j, j ≤ 29 → moreD j ≤ 13 ∧ 1 ≤ leastD j ∧ leastD j ≤ 24577 := by decide
end Go.Proofs.YtdcpibglbanchaaGreatDoor

set_option linter.unusedVariables false
set_option maxRecDepth 100000
namespace Go.Proofs.YtdcpibglbanchaaGreatDoor
open Go.RowKit

/-- the lengths as the document makes them -/
def litAt (i : Nat) : Int := if 144 ≤ i ∧ i < 256 then 9 else if 256 ≤ i ∧ i < 280 then 7 else 8
theorem fixL_at : (List.range 288).map litAt = fixL := by rfl
theorem fix_take (k : Nat) (h : k < 288) : (fixL.take (k + 1)) = fixL.take k ++ [litAt k] := by
  rw [← fixL_at, ← List.map_take, ← List.map_take, List.take_range, List.take_range, Nat.min_eq_left (by omega), Nat.min_eq_left (by omega), List.range_succ, List.map_append]
  rfl
theorem fixD_take (k : Nat) : List.replicate (k + 1) (5 : Int) = List.replicate k 5 ++ [5] := List.replicate_succ'

set_option maxHeartbeats 4000000 in
theorem refFixed (w : World) : Calls Tryz.prog 86 #[] w fun e w' => Below w.heap.size w w' ∧ ∃ v1 v2, e = .returned (.tuple #[v1, v2]) ∧ OwnT 3 .i64 w' w.heap.size v1 fixL ∧ OwnT 3 .i64 w' w.heap.size v2 fixD := by
  go_enter Tryz.func86, Tryz.ntmps86
  go_wp2_with fail
  go_loopw [2, 4] (fun v i wr => ∃ k : Nat, k ≤ 288 ∧ i = .int .i64 k ∧ Hid (OwnT 3 .i64 wr w.heap.size v (fixL.take k) ∧ Below w.heap.size w wr)) (fun _ i _ => 288 - (intOf i).toNat)
  case atStart => exact ⟨0, Nat.zero_le _, rfl, Lib.hid ⟨OwnT.nil _ _, Below.refl _ _⟩⟩
  case round =>
    obtain ⟨k, hk, rfl, H⟩ := hrel
    obtain ⟨⟨a, c, rfl, ho⟩, hb⟩ := H.out
    have hlen : (fixL.take k).length = k := by rw [List.length_take]; exact Nat.min_eq_left hk
    rw [hlen] at ho ⊢
    by_cases hlt : k < 288
    · have hbase := hb.size
      have hx := fix_take k hlt
      have HX := Lib.hid (And.intro hx hb)
      clear hx hb H
      have arm : ∀ {X : Int} {wc : World} {v : Value} {n : Nat}, litAt k = X → wc.ownsRow w.heap.size 3 1 v n ((fixL.take k).map (Value.int .i64) ++ [Value.int .i64 X]) → n = k + 1 → (wr.alloc (.cells #[.int .i64 X] 3)).grownBy wc (Value.slice a k c).ownBlock → OwnT 3 .i64 wc w.heap.size v (fixL.take (k + 1)) ∧ Below w.heap.size w wc := by
        intro X wc v n hX h1 h2 h3
        refine ⟨ownT_mk (n := n) ?_ (by rw [h2, List.length_take]; exact (Nat.min_eq_left (by rw [← fixL_at]; simp; omega)).symm), (HX.out.2.alloc hbase _).grown h3 (by simp; omega) (fun q hq => (ho.lt q hq).1)⟩
        rw [HX.out.1, List.map_append, hX]
        exact h1
      rcases (show (k < 144 ∧ litAt k = 8) ∨ (144 ≤ k ∧ k < 256 ∧ litAt k = 9) ∨ (256 ≤ k ∧ k < 280 ∧ litAt k = 7) ∨ (280 ≤ k ∧ litAt k = 8) by unfold litAt; by_cases h1 : k < 144; { left; exact ⟨h1, by rw [if_neg (by omega), if_neg (by omega)]⟩ }; by_cases h2 : k < 256; { right; left; exact ⟨by omega, h2, by rw [if_pos (by omega)]⟩ }; by_cases h3 : k < 280; { right; right; left; exact ⟨by omega, h3, by rw [if_neg (by omega), if_pos (by omega)]⟩ }; right; right; right; exact ⟨by omega, by rw [if_neg (by omega), if_neg (by omega)]⟩) with ⟨q1, hX⟩ | ⟨q1, q2, hX⟩ | ⟨q1, q2, hX⟩ | ⟨q1, hX⟩
      · go_wp2_with (at_builtin; refine wpList_appG 83 3 (.int .i64 0) 8 Tryz.underlying83 int_info rfl rfl _ _ rfl w.heap.size (.slice a k c) k ((fixL.take k).map (Value.int .i64)) rfl (ho.alloc _) (some ⟨wr.heap.size, 0, none⟩) 1 1 [.int .i64 8] rfl rfl (src_one wr _ _) (by intro u hu; simp at hu; subst hu; rfl) (by simp) (by simp only [maxLen]; omega) (by omega) (by simp; omega) ?_; intro v2 w2 o2 g2 l2; have HA := Lib.hid (arm hX o2 rfl g2); clear o2 g2 l2)
        case roundEnd => exact ⟨⟨k + 1, by omega, by simp, HA⟩, by simp [intOf]; omega⟩
      · go_wp2_with (at_builtin; refine wpList_appG 83 3 (.int .i64 0) 8 Tryz.underlying83 int_info rfl rfl _ _ rfl w.heap.size (.slice a k c) k ((fixL.take k).map (Value.int .i64)) rfl (ho.alloc _) (some ⟨wr.heap.size, 0, none⟩) 1 1 [.int .i64 9] rfl rfl (src_one wr _ _) (by intro u hu; simp at hu; subst hu; rfl) (by simp) (by simp only [maxLen]; omega) (by omega) (by simp; omega) ?_; intro v2 w2 o2 g2 l2; have HA := Lib.hid (arm hX o2 rfl g2); clear o2 g2 l2)
        case roundEnd => exact ⟨⟨k + 1, by omega, by simp, HA⟩, by simp [intOf]; omega⟩
      · go_wp2_with (at_builtin; refine wpList_appG 83 3 (.int .i64 0) 8 Tryz.underlying83 int_info rfl rfl _ _ rfl w.heap.size (.slice a k c) k ((fixL.take k).map (Value.int .i64)) rfl (ho.alloc _) (some ⟨wr.heap.size, 0, none⟩) 1 1 [.int .i64 7] rfl rfl (src_one wr _ _) (by intro u hu; simp at hu; subst hu; rfl) (by simp) (by simp only [maxLen]; omega) (by omega) (by simp; omega) ?_; intro v2 w2 o2 g2 l2; have HA := Lib.hid (arm hX o2 rfl g2); clear o2 g2 l2)
        case roundEnd => exact ⟨⟨k + 1, by omega, by simp, HA⟩, by simp [intOf]; omega⟩
      · go_wp2_with (at_builtin; refine wpList_appG 83 3 (.int .i64 0) 8 Tryz.underlying83 int_info rfl rfl _ _ rfl w.heap.size (.slice a k c) k ((fixL.take k).map (Value.int .i64)) rfl (ho.alloc _) (some ⟨wr.heap.size, 0, none⟩) 1 1 [.int .i64 8] rfl rfl (src_one wr _ _) (by intro u hu; simp at hu; subst hu; rfl) (by simp) (by simp only [maxLen]; omega) (by omega) (by simp; omega) ?_; intro v2 w2 o2 g2 l2; have HA := Lib.hid (arm hX o2 rfl g2); clear o2 g2 l2)
        case roundEnd => exact ⟨⟨k + 1, by omega, by simp, HA⟩, by simp [intOf]; omega⟩
    · have hk' : k = 288 := by omega
      subst hk'
      rw [show ((288 : Nat) : Int) = 288 from rfl]
      rename World => wo
      have ho1 : OwnT 3 .i64 wo w.heap.size (.slice a 288 c) fixL := ⟨a, c, rfl, ho⟩
      have H1 := Lib.hid (And.intro ho1 hb)
      clear ho ho1 hb H hlen
      go_wp2_with fail
      go_loopw [3, 6] (fun v i wr => ∃ j : Nat, j ≤ 32 ∧ i = .int .i64 j ∧ Hid (OwnT 3 .i64 wr wo.heap.size v (List.replicate j 5) ∧ Below wo.heap.size wo wr)) (fun _ i _ => 32 - (intOf i).toNat)
      case atStart => exact ⟨0, Nat.zero_le _, rfl, Lib.hid ⟨OwnT.nil _ _, Below.refl _ _⟩⟩
      case round =>
        obtain ⟨j, hj, rfl, H⟩ := hrel
        obtain ⟨⟨a2, c2, rfl, ho⟩, hb⟩ := H.out
        have hlen : (List.replicate j (5 : Int)).length = j := List.length_replicate
        rw [hlen] at ho ⊢
        by_cases hlt : j < 32
        · have hbase := hb.size
          have HX := Lib.hid hb
          have arm : ∀ {wc : World} {v : Value} {n : Nat}, wc.ownsRow wo.heap.size 3 1 v n ((List.replicate j (5 : Int)).map (Value.int .i64) ++ [Value.int .i64 5]) → n = j + 1 → (wr.alloc (.cells #[.int .i64 5] 3)).grownBy wc (Value.slice a2 j c2).ownBlock → OwnT 3 .i64 wc wo.heap.size v (List.replicate (j + 1) 5) ∧ Below wo.heap.size wo wc := by
            intro wc v n h1 h2 h3
            refine ⟨ownT_mk (n := n) ?_ (by rw [h2, List.length_replicate]), (HX.out.alloc hbase _).grown h3 (by simp; omega) (fun q hq => (ho.lt q hq).1)⟩
            rw [fixD_take, List.map_append]
            exact h1
          clear hb H
          go_wp2_with (at_builtin; refine wpList_appG 83 3 (.int .i64 0) 8 Tryz.underlying83 int_info rfl rfl _ _ rfl wo.heap.size (.slice a2 j c2) j ((List.replicate j (5 : Int)).map (Value.int .i64)) rfl (ho.alloc _) (some ⟨wr.heap.size, 0, none⟩) 1 1 [.int .i64 5] rfl rfl (src_one wr _ _) (by intro u hu; simp at hu; subst hu; rfl) (by simp) (by simp only [maxLen]; omega) (by omega) (by simp; omega) ?_; intro v2 w2 o2 g2 l2; have HA := Lib.hid (arm o2 rfl g2); clear o2 g2 l2)
          case roundEnd => exact ⟨⟨j + 1, by omega, by simp, HA⟩, by simp [intOf]; omega⟩
        · have hj' : j = 32 := by omega
          subst hj'
          have ho2 : OwnT 3 .i64 wr wo.heap.size (.slice a2 32 c2) fixD := ⟨a2, c2, rfl, ho⟩
          have HE := Lib.hid (And.intro ho2 hb)
          clear ho ho2 hb H hlen
          go_wp2_with fail
          go_ret2
          exact ⟨below_next H1.out.2 (Nat.le_refl _) HE.out.2, _, _, rfl, H1.out.1.below HE.out.2, HE.out.1.down H1.out.2.size⟩
end Go.Proofs.YtdcpibglbanchaaGreatDoor

set_option linter.unusedVariables false
set_option maxRecDepth 100000
namespace Go.Proofs.YtdcpibglbanchaaGreatDoor
open Go.RowKit

/-- what symbols answers -/
def SymR (w0 : World) (base g : Nat) (v0 : Value) (l : List Int) (s : Except Int (Nat × List Int)) (e : Ending) (w' : World) : Prop :=
  (∃ p' o v, s = .ok (p', o) ∧ e = .returned (.tuple #[v, .int .i64 0]) ∧ RS 5 .u8 w0 base g v0 l w' p' v o) ∨
  (∃ er, s = .error er ∧ er ≠ 0 ∧ e = .returned (.tuple #[.slice none 0 0, .int .i64 er]) ∧ Foot (fun i => i = g ∨ v0.ownBlock = some i) w0 w')
theorem SymR.bad {w0 : World} {base g : Nat} {v0 : Value} {l : List Int} {s : Except Int (Nat × List Int)} {er : Int} {w' : World} (hs : s = .error er) (hne : er ≠ 0) (hf : Foot (fun i => i = g ∨ v0.ownBlock = some i) w0 w') : SymR w0 base g v0 l s (.returned (.tuple #[.slice none 0 0, .int .i64 er])) w' := .inr ⟨er, hs, hne, rfl, hf⟩

theorem RS.start {T : TypeId} {k : IntKind} {w0 w w1 : World} {base g p : Nat} {v0 v : Value} {l out : List Int} (h : RS T k w0 base g v0 l w p v out) (hb : Below w.heap.size w w1) : RS T k w1 base g v l w1 p v out :=
  ⟨rdr_low' h.rdr hb (by have := h.up; have := h.low; have := h.size; omega), h.own.below hb, Foot.refl _ _, fun q e => .inl e, h.up, by have := h.low; have := h.size; have := hb.size; omega⟩
theorem RS.back {T : TypeId} {k : IntKind} {w0 w w1 : World} {base g p : Nat} {v0 v : Value} {l out : List Int} (h : RS T k w1 base g v0 l w p v out) (hb : Below w0.heap.size w0 w1) (hl : base ≤ w0.heap.size) : RS T k w0 base g v0 l w p v out :=
  ⟨h.rdr, h.own, (Foot.of_below hb).trans2 h.foot (fun i hi => .inl hi), fun q e => by
    rcases h.new q e with h1 | h1
    · exact .inl h1
    · exact .inr (Nat.le_trans hb.size h1), h.up, hl⟩
/-- the row doesn't lie in a block that was made behind the first one and ahead of the walk -/
theorem RS.off {T : TypeId} {k : IntKind} {w1 w : World} {base g p n0 : Nat} {v0 v : Value} {l out : List Int} (h : RS T k w1 base g v0 l w p v out) (h0 : ∀ q, v0.ownBlock = some q → q < n0) {b : Nat} (hb : n0 ≤ b) (hb1 : b < w1.heap.size) : v.ownBlock ≠ some b := fun e => by
  rcases h.new b e with h1 | h1
  · have := h0 b h1; omega
  · omega
theorem foot_back {F : Nat → Prop} {w0 w1 w : World} (hb : Below w0.heap.size w0 w1) (h : Foot F w1 w) : Foot F w0 w := (Foot.of_below hb).trans2 h (fun i hi => .inl hi)
theorem pow_le13 : ∀ m : Nat, m ≤ 13 → (2 : Int) ^ m ≤ 8192 := by decide
theorem pow_le5 : ∀ m : Nat, m ≤ 5 → (2 : Int) ^ m ≤ 32 := by decide
set_option maxHeartbeats 8000000 in
theorem refSymbols {w : World} {base g : Nat} {v0 : Value} {l out : List Int} {p : Nat} {F : Nat → Prop} {nl nd : List Nat} {cs1 cs2 : Array Value} {limit f0 : Nat} (hF : ∀ b, F b → b < w.heap.size ∧ b ≠ g ∧ v0.ownBlock ≠ some b)
    (h1 : Cd w F nl cs1) (h2 : Cd w F nd cs2) (hs1 : cs1.size = 32) (hs2 : cs2.size = 32) (ha1 : ∀ n ∈ nl, n ≤ 15) (ha2 : ∀ n ∈ nd, n ≤ 15) (hk1 : kraft nl ≤ 2 ^ 15) (hk2 : kraft nd ≤ 2 ^ 15) (hl1 : nl.length ≤ 300) (hl2 : nd.length ≤ 300)
    (h : RS 5 .u8 w base g v0 l w p v0 out) (hlim : limit ≤ 32768) (ho : out.length ≤ limit) (hf0 : 8 * l.length + 1 ≤ p + f0) :
    Calls Tryz.prog 89 #[.pointer (some ⟨g, 0, none⟩), .agg cs1, .agg cs2, v0, .int .i64 limit] w (SymR w base g v0 l (symsS nl nd l limit f0 p out)) := by
  obtain ⟨a0, c0, rfl, _⟩ := h.own
  have hB := (Below.refl w.heap.size w).alloc (Nat.le_refl _) (.cells cs1 145)
  have hB2 := hB.alloc hB.size (.cells cs2 145)
  have hn1 := heap_alloc_new w (.cells cs1 145)
  have hn2 := heap_alloc_new (w.alloc (.cells cs1 145)) (.cells cs2 145)
  rw [show (w.alloc (.cells cs1 145)).heap.size = w.heap.size + 1 by simp] at hn2
  have hn1' : ((w.alloc (.cells cs1 145)).alloc (.cells cs2 145)).heap[w.heap.size]? = some (.cells cs1 145 (0, 0)) := (Below.heap_alloc _ _ _ (by simp)).trans hn1
  have hsz2 : ((w.alloc (.cells cs1 145)).alloc (.cells cs2 145)).heap.size = w.heap.size + 2 := by simp
  have hR := h.start hB2
  have hbk : ∀ b, F b → ((w.alloc (.cells cs1 145)).alloc (.cells cs2 145)).heap[b]? = w.heap[b]? := fun b hb => hB2.block b (hF b hb).1
  have hv0 : ∀ q, (Value.slice a0 out.length c0).ownBlock = some q → q < w.heap.size := fun q e => (h.own.lt q e).2
  have hl8 := h.rdr.choose_spec.choose_spec.2.2.1
  have hc1 := h1.keep hbk
  have hc2 := h2.keep hbk
  have HC := Lib.hid (And.intro hF (And.intro hc1 (And.intro hc2 (And.intro ha1 (And.intro ha2 (And.intro hk1 (And.intro hk2 (And.intro hn1' (And.intro hn2 hR)))))))))
  have HB := Lib.hid (And.intro hB2 (And.intro h.low hv0))
  have hlow := h.low
  have hup := h.up
  clear hF h1 h2 ha1 ha2 hk1 hk2 hn1 hn2 hn1' hR hB hB2 h hbk hc1 hc2 hv0
  go_enter Tryz.func89, Tryz.ntmps89
  go_wp2_with fail
  generalize ((w.alloc (.cells cs1 145)).alloc (.cells cs2 145)) = w1 at *
  obtain ⟨R0, hR0⟩ : ∃ R0, symsS nl nd l limit f0 p out = R0 := ⟨_, rfl⟩
  rw [hR0]
  have HR0 := Lib.hid hR0
  clear hR0
  go_loopg [3] (8 * l.length + 1) (fun K vv wr => ∃ (p' f : Nat) (out' : List Int) (a : Option Addr) (c : Nat), vv = .slice a out'.length c ∧ 8 * l.length + 1 ≤ p' + f ∧ 8 * l.length + 1 ≤ p' + K ∧ out'.length ≤ limit ∧ Hid (R0 = symsS nl nd l limit f p' out' ∧ RS 5 .u8 w1 base g (.slice a0 out.length c0) l wr p' (.slice a out'.length c) out' ∧ wr.heap[w.heap.size]? = some (.cells cs1 145 (0, 0)) ∧ wr.heap[w.heap.size + 1]? = some (.cells cs2 145 (0, 0))))
  case atStart => exact ⟨p, f0, out, a0, c0, rfl, hf0, by omega, ho, Lib.hid ⟨HR0.out.symm, HC.out.2.2.2.2.2.2.2.2.2, HC.out.2.2.2.2.2.2.2.1, HC.out.2.2.2.2.2.2.2.2.1⟩⟩
  case round =>
    obtain ⟨p', f, out', a, c, rfl, hf, hK, hol, H⟩ := hrel
    obtain ⟨e1, hR, hb1, hb2⟩ := H.out
    obtain ⟨hF, hc1, hc2, ha1, ha2, hk1, hk2, _⟩ := HC.out
    have hp := hR.inl
    have hg0 : g < w.heap.size := by omega
    obtain ⟨f, rfl⟩ : ∃ f', f = f' + 1 := ⟨f - 1, by omega⟩
    have hkeep : ∀ {W : World} {q : Nat} {u : Value} {oo : List Int}, RS 5 .u8 w1 base g (.slice a0 out.length c0) l W q u oo → Cd W F nl cs1 ∧ Cd W F nd cs2 ∧ (∀ b, F b → b < W.heap.size ∧ b ≠ g) := fun {W q u oo} hS => by
      have hb : ∀ b, F b → W.heap[b]? = w1.heap[b]? := fun b hb => hS.keep (by have := (hF b hb).1; omega) (hF b hb).2.1 (hF b hb).2.2
      exact ⟨hc1.keep hb, hc2.keep hb, fun b hb => ⟨by have := (hF b hb).1; have := hS.size; omega, (hF b hb).2.1⟩⟩
    have hck := hkeep hR
    rw [symsS] at e1
    cases hx : nxS nl l p' with
    | error er =>
      have hs : R0 = .error er := by rw [e1, symS_bad hx]
      have hcall := nxtR_bad hck.2.2 hck.1 ha1 hk1 hR.rdr hx
      have HE := Lib.hid (And.intro hs (And.intro hR hb1))
      clear hck hkeep hR hb2 e1 hs hx hF hc1 hc2 ha1 ha2 hk1 hk2 H HC HR0
      go_wp2_with (refine code_ld rfl rfl w.heap.size rfl hs1 hb1 ?_)
      refine hcall.mono ?_
      rintro e w2 ⟨y, q, rfl, hne, hr2, ho2⟩
      have hd : (er != 0) = true := by simp [hne]
      have HF := Lib.hid (HE.out.2.1.only ho2 hr2).foot
      have HNE := Lib.hid hne
      clear hcall hr2 ho2 hne hb1
      go_wp2_with fail
      go_ret2
      exact SymR.bad HE.out.1 HNE.out (foot_back HB.out.1 HF.out)
    | ok x =>
      obtain ⟨v, p1⟩ := x
      obtain ⟨⟨s, hs300, rfl⟩, hpp, hp1⟩ := nxS_ok hp hx
      have hcall := nxtR_ok hck.2.2 hck.1 ha1 hk1 hR.rdr hx
      have hlen300 : s ≤ 300 := by omega
      have HE := Lib.hid (And.intro e1 (And.intro hx (And.intro hR (And.intro hb2 hb1))))
      have HKP : Hid (∀ (W : World) (q : Nat) (u : Value) (oo : List Int), RS 5 .u8 w1 base g (.slice a0 out.length c0) l W q u oo → Cd W F nl cs1 ∧ Cd W F nd cs2 ∧ (∀ b, F b → b < W.heap.size ∧ b ≠ g)) := Lib.hid fun W q u oo h => hkeep h
      clear hck hkeep hR hb2 e1 hx hF hc1 hc2 ha1 ha2 hk1 hk2 H HR0 hs300
      go_wp2_with (refine code_ld rfl rfl w.heap.size rfl hs1 hb1 ?_)
      refine hcall.mono ?_
      rintro e w2 ⟨rfl, hr2, ho2⟩
      have hR2 := HE.out.2.2.1.only ho2 hr2
      have hg1 : w2.heap[w.heap.size]? = some (.cells cs1 145 (0, 0)) := (ho2.block _ (blk_lt HE.out.2.2.2.2) (by intro e; injection e with e; omega)).trans HE.out.2.2.2.2
      have hg2 : w2.heap[w.heap.size + 1]? = some (.cells cs2 145 (0, 0)) := (ho2.block _ (blk_lt HE.out.2.2.2.1) (by intro e; injection e with e; omega)).trans HE.out.2.2.2.1
      have H2 := Lib.hid (And.intro hR2 (And.intro hg1 hg2))
      clear hcall hr2 ho2 hR2 hb1 hg1 hg2
      by_cases h256 : s = 256
      · subst h256
        have hs : R0 = .ok (p1, out') := by rw [HE.out.1, symS_end HE.out.2.1]
        have HS := Lib.hid hs
        clear hs
        go_wp2_with fail
        go_ret2
        exact .inl ⟨_, _, _, HS.out, rfl, H2.out.1.back HB.out.1 HB.out.2.1⟩
      · by_cases hlit : s < 256
        · have hs : R0 = (if limit ≤ out'.length then .error 8 else symsS nl nd l limit f p1 (out' ++ [(s : Int)])) := by
            rw [HE.out.1, symS_lit HE.out.2.1 (by omega)]
            by_cases hq : limit ≤ out'.length
            · rw [if_pos hq, if_pos hq]
            · rw [if_neg hq, if_neg hq]
          by_cases hq : limit ≤ out'.length
          · rw [if_pos hq] at hs
            have HS := Lib.hid hs
            clear hs
            go_wp2_with fail
            go_ret2
            exact SymR.bad HS.out (by decide) (foot_back HB.out.1 H2.out.1.foot)
          · rw [if_neg hq] at hs
            have HS := Lib.hid hs
            have hs8 : IntKind.u8.wrap (s : Int) = s := IntWalk.u8_in _ (by omega)
            have hbase := H2.out.1.low
            have hsz := H2.out.1.size
            have hown := H2.out.1.own.is.2
            clear hs
            go_wp2_with (at_builtin; refine wpList_appG 22 5 (.int .u8 0) 1 Tryz.underlying22 u8_info rfl rfl _ _ rfl base (.slice a out'.length c) out'.length (out'.map (Value.int .u8)) rfl (hown.alloc _) (some ⟨w2.heap.size, 0, none⟩) 1 1 [.int .u8 s] rfl rfl (src_one w2 _ _) (by intro u hu; simp at hu; subst hu; rfl) (by simp) (by simp only [maxLen]; omega) (by omega) (by simp; omega) ?_; intro v3 w3 o3 g3 l3; obtain ⟨a3, c3, rfl⟩ := own_shape o3)
            have hR3 := (H2.out.1.below ((Below.refl _ _).alloc (Nat.le_refl _) (.cells #[.int .u8 s] 5))).grown (x := [(s : Int)]) (by rw [List.map_append]; exact o3) (by simp) g3 l3
            have hq1 : w3.heap[w.heap.size]? = some (.cells cs1 145 (0, 0)) := by
              rw [g3.block _ (by have := blk_lt H2.out.2.1; simp; omega) (fun e => H2.out.1.off HB.out.2.2 (Nat.le_refl _) (by omega) e.symm), Below.heap_alloc _ _ _ (blk_lt H2.out.2.1)]; exact H2.out.2.1
            have hq2 : w3.heap[w.heap.size + 1]? = some (.cells cs2 145 (0, 0)) := by
              rw [g3.block _ (by have := blk_lt H2.out.2.2; simp; omega) (fun e => H2.out.1.off HB.out.2.2 (by omega) (by omega) e.symm), Below.heap_alloc _ _ _ (blk_lt H2.out.2.2)]; exact H2.out.2.2
            have H3 := Lib.hid (And.intro hR3 (And.intro hq1 hq2))
            clear o3 g3 l3 hR3 hq1 hq2 hown
            go_roundg (8 * l.length + 1 - p1)
            case measure => omega
            case rel =>
              refine ⟨p1, f, out' ++ [(s : Int)], a3, c3, by simp, by omega, by omega, by simp; omega, Lib.hid ⟨HS.out, by simpa using H3.out.1, H3.out.2⟩⟩
        · by_cases h285 : 285 < s
          · have hs : R0 = .error 6 := by
              rw [HE.out.1, symS_cop HE.out.2.1 (by omega), copS_is]
              have : lenS l p1 (s : Int) = .error 6 := by unfold lenS; rw [if_pos (by omega)]
              rw [this]
            have HS := Lib.hid hs
            clear hs
            go_wp2_with fail
            go_ret2
            exact SymR.bad HS.out (by decide) (foot_back HB.out.1 H2.out.1.foot)
          · have hs : R0 = (match copS nd l limit p1 out' (s : Int) with | .error e => .error e | .ok (q, oo) => symsS nl nd l limit f q oo) := by
              rw [HE.out.1, symS_cop HE.out.2.1 (by omega)]
              cases copS nd l limit p1 out' (s : Int) with
              | error e => rfl
              | ok y => obtain ⟨q, oo⟩ := y; rfl
            rw [copS_is, lenS_is hp1 (by omega) (by omega)] at hs
            have hlen := refLen s (by omega) (by omega) w2
            obtain ⟨hm5, hl258⟩ := least_bd s (by omega)
            have HS := Lib.hid hs
            clear hs
            go_wp2_with fail
            refine hlen.mono ?_
            rintro e w3 ⟨rfl, rfl⟩
            generalize LN s = LS at *
            generalize MN s = MS at *
            clear hlen
            cases ht : takeS l p1 MS with
            | error er =>
              have hcall := takeR_bad (by omega) H2.out.1.rdr ht
              have hs : R0 = .error er := by rw [HS.out, ht]
              have HT := Lib.hid hs
              clear hs ht
              go_wp2_with fail
              refine hcall.mono ?_
              rintro e w3 ⟨rfl, hne, hr3, ho3⟩
              have hd : (er != 0) = true := by simp [hne]
              have HF := Lib.hid (And.intro hne (H2.out.1.only ho3 hr3).foot)
              clear hcall hr3 ho3 hne
              go_wp2_with fail
              go_ret2
              exact SymR.bad HT.out HF.out.1 (foot_back HB.out.1 HF.out.2)
            | ok y =>
              obtain ⟨k, p2⟩ := y
              obtain ⟨hkv, hp2, hp28⟩ := takeS_val ht
              rw [← hp2] at hp28
              have hkb := tk_bd l p1 MS
              have hk32 : (2 : Int) ^ MS ≤ 32 := pow_le5 MS hm5
              rw [← hkv] at hkb
              have hcall := takeR_ok (by omega) H2.out.1.rdr ht
              have hs := HS.out
              rw [ht] at hs
              simp only at hs
              have HT := Lib.hid hs
              clear hs ht HS hkv
              go_wp2_with fail
              refine hcall.mono ?_
              rintro e w3 ⟨rfl, hr3, ho3⟩
              have hR3 := H2.out.1.only ho3 hr3
              have hg1 : w3.heap[w.heap.size]? = some (.cells cs1 145 (0, 0)) := (ho3.block _ (blk_lt H2.out.2.1) (by intro e; injection e with e; omega)).trans H2.out.2.1
              have hg2 : w3.heap[w.heap.size + 1]? = some (.cells cs2 145 (0, 0)) := (ho3.block _ (blk_lt H2.out.2.2) (by intro e; injection e with e; omega)).trans H2.out.2.2
              have hck := HKP.out _ _ _ _ hR3
              have HK := HC.out
              obtain ⟨_, _, _, _, ha2, _, hk2, _⟩ := HK
              have H3 := Lib.hid (And.intro hR3 (And.intro hg1 hg2))
              clear hcall hr3 ho3 hg1 H2
              cases hx2 : nxS nd l p2 with
              | error er =>
                have hcall := nxtR_bad hck.2.2 hck.2.1 ha2 hk2 H3.out.1.rdr hx2
                have hs : R0 = .error er := by rw [HT.out, disS_any, hx2]
                have HT2 := Lib.hid hs
                clear hs hx2 hck HKP ha2 hk2
                go_wp2_with (refine code_ld rfl rfl (w.heap.size + 1) rfl hs2 hg2 ?_)
                refine hcall.mono ?_
                rintro e w4 ⟨y, q, rfl, hne, hr4, ho4⟩
                have hd : (er != 0) = true := by simp [hne]
                have HF := Lib.hid (And.intro hne (H3.out.1.only ho4 hr4).foot)
                clear hcall hr4 ho4 hne hg2
                go_wp2_with fail
                go_ret2
                exact SymR.bad HT2.out HF.out.1 (foot_back HB.out.1 HF.out.2)
              | ok y =>
                obtain ⟨t', p3⟩ := y
                obtain ⟨⟨t, ht300, rfl⟩, hpp3, hp3⟩ := nxS_ok hp28 hx2
                have hcall := nxtR_ok hck.2.2 hck.2.1 ha2 hk2 H3.out.1.rdr hx2
                have ht3 : t ≤ 300 := by omega
                have hs := HT.out
                rw [disS_any, hx2] at hs
                simp only at hs
                have HT2 := Lib.hid hs
                clear hs hx2 hck HKP ha2 hk2 HT ht300
                go_wp2_with (refine code_ld rfl rfl (w.heap.size + 1) rfl hs2 hg2 ?_)
                refine hcall.mono ?_
                rintro e w4 ⟨rfl, hr4, ho4⟩
                have hR4 := H3.out.1.only ho4 hr4
                have hg1 : w4.heap[w.heap.size]? = some (.cells cs1 145 (0, 0)) := (ho4.block _ (blk_lt H3.out.2.1) (by intro e; injection e with e; omega)).trans H3.out.2.1
                have hg2' : w4.heap[w.heap.size + 1]? = some (.cells cs2 145 (0, 0)) := (ho4.block _ (blk_lt H3.out.2.2) (by intro e; injection e with e; omega)).trans H3.out.2.2
                have H4 := Lib.hid (And.intro hR4 (And.intro hg1 hg2'))
                clear hcall hr4 ho4 hg1 hg2 hg2' hR4 H3
                by_cases h29 : 29 < t
                · have hs : R0 = .error 6 := by rw [HT2.out, if_pos (by omega)]
                  have HS := Lib.hid hs
                  clear hs
                  go_wp2_with fail
                  go_ret2
                  exact SymR.bad HS.out (by decide) (foot_back HB.out.1 H4.out.1.foot)
                · have hs := HT2.out
                  rw [if_neg (by omega), Int.toNat_natCast] at hs
                  obtain ⟨hmd, hld1, hld2⟩ := leastD_bd t (by omega)
                  have hdist := refDistance t (by omega) w4
                  have HT3 := Lib.hid hs
                  clear hs HT2
                  go_wp2_with fail
                  refine hdist.mono ?_
                  rintro e w5 ⟨rfl, rfl⟩
                  clear hdist
                  generalize leastD t = LD at *
                  generalize moreD t = MD at *
                  cases ht2 : takeS l p3 MD with
                  | error er =>
                    have hcall := takeR_bad (by omega) H4.out.1.rdr ht2
                    have hs : R0 = .error er := by rw [HT3.out, ht2]
                    have HT4 := Lib.hid hs
                    clear hs ht2
                    go_wp2_with fail
                    refine hcall.mono ?_
                    rintro e w5 ⟨rfl, hne, hr5, ho5⟩
                    have hd : (er != 0) = true := by simp [hne]
                    have HF := Lib.hid (And.intro hne (H4.out.1.only ho5 hr5).foot)
                    clear hcall hr5 ho5 hne
                    go_wp2_with fail
                    go_ret2
                    exact SymR.bad HT4.out HF.out.1 (foot_back HB.out.1 HF.out.2)
                  | ok z =>
                    obtain ⟨k2, p4⟩ := z
                    obtain ⟨hkv2, hp4, hp48⟩ := takeS_val ht2
                    rw [← hp4] at hp48
                    have hkb2 := tk_bd l p3 MD
                    have hk33 : (2 : Int) ^ MD ≤ 8192 := pow_le13 MD hmd
                    rw [← hkv2] at hkb2
                    have hcall := takeR_ok (by omega) H4.out.1.rdr ht2
                    have hs := HT3.out
                    rw [ht2] at hs
                    simp only at hs
                    obtain ⟨NN, hNN⟩ := Int.eq_ofNat_of_zero_le (show 0 ≤ (LS : Int) + k by omega)
                    obtain ⟨FF, hFF⟩ := Int.eq_ofNat_of_zero_le (show 0 ≤ (LD : Int) + k2 by omega)
                    rw [hNN, hFF, Int.toNat_natCast, Int.toNat_natCast] at hs
                    have hNb : NN ≤ 290 := by omega
                    have hFb : 1 ≤ FF ∧ FF ≤ 33000 := by omega
                    have HT4 := Lib.hid hs
                    clear hs ht2 HT3 hkv2
                    go_wp2_with fail
                    refine hcall.mono ?_
                    rintro e w5 ⟨rfl, hr5, ho5⟩
                    have hR5 := H4.out.1.only ho5 hr5
                    have hg1 : w5.heap[w.heap.size]? = some (.cells cs1 145 (0, 0)) := (ho5.block _ (blk_lt H4.out.2.1) (by intro e; injection e with e; omega)).trans H4.out.2.1
                    have hg2 : w5.heap[w.heap.size + 1]? = some (.cells cs2 145 (0, 0)) := (ho5.block _ (blk_lt H4.out.2.2) (by intro e; injection e with e; omega)).trans H4.out.2.2
                    have H5 := Lib.hid (And.intro hR5 (And.intro hg1 hg2))
                    clear hcall hr5 ho5 hg1 hg2 hR5 H4
                    by_cases h7 : out'.length < FF
                    · have hs : R0 = .error 7 := by rw [HT4.out, if_pos (by omega)]
                      have HS := Lib.hid hs
                      clear hs
                      go_wp2_with fail
                      go_ret2
                      exact SymR.bad HS.out (by decide) (foot_back HB.out.1 H5.out.1.foot)
                    · by_cases h8 : (limit : Int) - out'.length < NN
                      · have hs : R0 = .error 8 := by rw [HT4.out, if_neg (by omega), if_pos h8]
                        have HS := Lib.hid hs
                        have hd8 : decide ((NN : Int) > (limit : Int) - out'.length) = true := by simp; omega
                        clear hs
                        go_wp2_with fail
                        go_ret2
                        exact SymR.bad HS.out (by decide) (foot_back HB.out.1 H5.out.1.foot)
                      · have hs : R0 = symsS nl nd l limit f p4 (copyN out' FF NN) := by rw [HT4.out, if_neg (by omega), if_neg h8]
                        have HS := Lib.hid hs
                        have hd8 : decide ((NN : Int) > (limit : Int) - out'.length) = false := by simp; omega
                        clear hs HT4
                        go_wp2_with fail
                        have hgap : out'.length + NN ≤ limit := by omega
                        clear hNN hFF hkb hkb2 hk32 hk33 hmd hld1 hld2 hm5 hl258
                        go_loopw [3, 19] (fun vv iv wq => ∃ (i : Nat) (a : Option Addr) (c : Nat), i ≤ NN ∧ iv = .int .i64 i ∧ vv = .slice a (out'.length + i) c ∧ Hid (RS 5 .u8 w1 base g (.slice a0 out.length c0) l wq p4 (.slice a (out'.length + i) c) (copyN out' FF i) ∧ wq.heap[w.heap.size]? = some (.cells cs1 145 (0, 0)) ∧ wq.heap[w.heap.size + 1]? = some (.cells cs2 145 (0, 0)))) (fun _ iv _ => NN - (intOf iv).toNat)
                        case atStart => exact ⟨0, a, c, Nat.zero_le _, rfl, rfl, H5⟩
                        case round =>
                          obtain ⟨i, a6, c6, hi, rfl, rfl, HI⟩ := hrel
                          by_cases hlt : i < NN
                          · have hown := HI.out.1.own.is.2
                            have hlen := copyN_len FF i out'
                            obtain ⟨gq, rfl⟩ : ∃ gq, a6 = some ⟨gq, 0, none⟩ := by
                              rcases hown.2 with ⟨e, hn⟩ | ⟨gq, cap, cur, e, _⟩
                              · omega
                              · injection e with e1 e2 e3
                                exact ⟨gq, e1⟩
                            obtain ⟨J, hJ⟩ : ∃ J : Nat, out'.length + i - FF = J := ⟨_, rfl⟩
                            have hJ1 : ((out'.length : Int) + (i : Int)) - (FF : Int) = (J : Int) := by omega
                            have hJ2 : J < out'.length + i := by omega
                            have hcell := own_byte hown (by rw [hlen]) hJ2
                            obtain ⟨X, hX⟩ : ∃ X, (copyN out' FF i).getD J 0 = X := ⟨_, rfl⟩
                            rw [hX] at hcell
                            have hsucc := copyN_succ FF i out'
                            rw [hlen, hJ, hX] at hsucc
                            have hbase := HI.out.1.low
                            have hsz := HI.out.1.size
                            have HZ := Lib.hid (And.intro hsucc hlen)
                            clear hsucc hX hlen hJ
                            go_wp2_with (at_builtin; refine wpList_appG 22 5 (.int .u8 0) 1 Tryz.underlying22 u8_info rfl rfl _ _ rfl base (.slice (some ⟨gq, 0, none⟩) (out'.length + i) c6) (out'.length + i) ((copyN out' FF i).map (Value.int .u8)) rfl (hown.alloc _) (some ⟨wr.heap.size, 0, none⟩) 1 1 [.int .u8 X] rfl rfl (src_one wr _ _) (by intro u hu; simp at hu; subst hu; rfl) (by simp) (by simp only [maxLen]; omega) (by omega) (by simp; omega) ?_; intro v7 w7 o7 g7 l7; obtain ⟨a7, c7, rfl⟩ := own_shape o7)
                            have hR7 := (HI.out.1.below ((Below.refl _ _).alloc (Nat.le_refl _) (.cells #[.int .u8 X] 5))).grown (x := [X]) (by rw [List.map_append]; exact o7) (by rw [List.length_append, HZ.out.2]; rfl) g7 l7
                            have hq1 : w7.heap[w.heap.size]? = some (.cells cs1 145 (0, 0)) := by
                              rw [g7.block _ (by have := blk_lt HI.out.2.1; simp; omega) (fun e => HI.out.1.off HB.out.2.2 (Nat.le_refl _) (by omega) e.symm), Below.heap_alloc _ _ _ (blk_lt HI.out.2.1)]; exact HI.out.2.1
                            have hq2 : w7.heap[w.heap.size + 1]? = some (.cells cs2 145 (0, 0)) := by
                              rw [g7.block _ (by have := blk_lt HI.out.2.2; simp; omega) (fun e => HI.out.1.off HB.out.2.2 (by omega) (by omega) e.symm), Below.heap_alloc _ _ _ (blk_lt HI.out.2.2)]; exact HI.out.2.2
                            rw [← HZ.out.1] at hR7
                            have H7 := Lib.hid (And.intro hR7 (And.intro hq1 hq2))
                            clear o7 g7 l7 hR7 hq1 hq2 hown hcell
                            case roundEnd => exact ⟨⟨i + 1, a7, c7, by omega, by simp, by rw [Nat.add_assoc], H7⟩, by simp [intOf]; omega⟩
                          · have hi' : i = NN := by omega
                            subst hi'
                            have hlen := copyN_len FF i out'
                            have HL := Lib.hid hlen
                            clear hlen
                            go_wp2_with fail
                            go_roundg (8 * l.length + 1 - p4)
                            case measure => omega
                            case rel =>
                              exact ⟨p4, f, copyN out' FF i, a6, c6, by rw [HL.out], by omega, by omega, by rw [HL.out]; omega, Lib.hid ⟨HS.out, by rw [HL.out]; exact HI.out.1, HI.out.2⟩⟩
end Go.Proofs.YtdcpibglbanchaaGreatDoor

set_option linter.unusedVariables false
set_option maxRecDepth 100000
namespace Go.Proofs.YtdcpibglbanchaaGreatDoor
open Go.RowKit

/-- what told answers -/
def TolR (w0 : World) (g : Nat) (l : List Int) (s : Except Int (Nat × List Nat × List Nat)) (e : Ending) (w' : World) : Prop :=
  Only g w0 w' ∧ ((∃ (p5 : Nat) (row : List Int) (A C : Nat) (a1 : Option Addr) (c1 : Nat) (a2 : Option Addr) (c2 : Nat), s = (match codeS (row.take A) false with | .error e => .error e | .ok nl => match codeS (row.drop A) true with | .error e => .error e | .ok nd => .ok (p5, nl, nd)) ∧
      e = .returned (.tuple #[.slice a1 A c1, .slice a2 C c2, .int .i64 0]) ∧ Rdr 136 w' g l p5 ∧ row.length = A + C ∧ A ≤ 286 ∧ C ≤ 30 ∧ Ints .i64 w' w'.heap.size a1 (row.take A) ∧ Ints .i64 w' w'.heap.size a2 (row.drop A)) ∨
    (∃ er, s = .error er ∧ er ≠ 0 ∧ e = .returned (.tuple #[.slice none 0 0, .slice none 0 0, .int .i64 er])))
theorem TolR.bad {w0 : World} {g : Nat} {l : List Int} {s : Except Int (Nat × List Nat × List Nat)} {er : Int} {w' : World} (hs : s = .error er) (hne : er ≠ 0) (hf : Only g w0 w') : TolR w0 g l s (.returned (.tuple #[.slice none 0 0, .slice none 0 0, .int .i64 er])) w' := ⟨hf, .inr ⟨er, hs, hne, rfl⟩⟩
theorem told_1 {l : List Int} {p : Nat} {er : Int} (h : takeS l p 5 = .error er) : toldS l p = .error er := by unfold toldS; rw [h]; rfl
theorem told_2 {l : List Int} {p p1 : Nat} {a er : Int} (h : takeS l p 5 = .ok (a, p1)) (h2 : takeS l p1 5 = .error er) : toldS l p = .error er := by
  unfold toldS; rw [h]; simp only [bind, Except.bind]; rw [h2]
theorem told_3 {l : List Int} {p p1 p2 : Nat} {a b er : Int} (h : takeS l p 5 = .ok (a, p1)) (h2 : takeS l p1 5 = .ok (b, p2)) (h3 : takeS l p2 4 = .error er) : toldS l p = .error er := by
  unfold toldS; rw [h]; simp only [bind, Except.bind]; rw [h2]; simp only []; rw [h3]
theorem told_4 {l : List Int} {p p1 p2 p3 A C D : Nat} (h : takeS l p 5 = .ok ((A : Int), p1)) (h2 : takeS l p1 5 = .ok ((C : Int), p2)) (h3 : takeS l p2 4 = .ok ((D : Int), p3)) : toldS l p = toldC l p3 A C D := by
  obtain ⟨e1, rfl, _⟩ := takeS_val h
  obtain ⟨e2, rfl, _⟩ := takeS_val h2
  obtain ⟨e3, rfl, _⟩ := takeS_val h3
  have ht : takesS l p [5, 5, 4] = .ok ([(A : Int), (C : Int), (D : Int)], p + 5 + 5 + 4) := by
    unfold takesS; rw [h]; simp only []
    unfold takesS; rw [h2]; simp only []
    unfold takesS; rw [h3]; simp only []
    rfl
  exact toldS_is ht e1.symm e2.symm e3.symm
theorem ordCells : (arrN 19 fun i => ((tellO.getD i 0 : Nat) : Int)) = #[.int .i64 16, .int .i64 17, .int .i64 18, .int .i64 0, .int .i64 8, .int .i64 7, .int .i64 9, .int .i64 6, .int .i64 10, .int .i64 5, .int .i64 11, .int .i64 4, .int .i64 12, .int .i64 3, .int .i64 13, .int .i64 2, .int .i64 14, .int .i64 1, .int .i64 15] := by rfl

section
variable {ns : List Nat} {l : List Int} {n f p p1 p2 : Nat} {row : List Int} {s : Nat}
theorem lst_bad {er : Int} (hr : row.length < n) (hx : nxS ns l p = .error er) : lensS ns l n (f + 1) p row = .error er := by
  rw [lensS, if_pos hr, lenStep_is, hx]
theorem lst_lit (hr : row.length < n) (hp : p1 ≤ 8 * l.length) (hx : nxS ns l p = .ok ((s : Int), p1)) (hs : s < 16) : lensS ns l n (f + 1) p row = lensS ns l n f p1 (row ++ [(s : Int)]) := by
  rw [lensS, if_pos hr, lenStep_is, hx]
  simp only
  have h1 : repT l p1 row (s : Int) = .ok ((s : Int), 1 + 0, p1) := by
    unfold repT repS
    rw [if_neg (by omega), if_neg (by omega), if_neg (by omega)]
    simp only
    rw [takeS_ok (by omega), tk_zero]
    rfl
  rw [h1]
  simp only
  rw [if_neg (by omega)]
  rfl
theorem lst_none (hr : row.length < n) (h0 : row.length = 0) (hx : nxS ns l p = .ok (16, p1)) : lensS ns l n (f + 1) p row = .error 6 := by
  rw [lensS, if_pos hr, lenStep_is, hx]
  simp only
  have h1 : repT l p1 row 16 = .error 6 := by
    unfold repT repS
    rw [if_pos rfl, if_pos h0]
  rw [h1]
theorem lst_short {v least er : Int} {wd : Nat} (hr : row.length < n) (hx : nxS ns l p = .ok ((s : Int), p1)) (hs : repS row (s : Int) = .ok (v, least, wd)) (ht : takeS l p1 wd = .error er) : lensS ns l n (f + 1) p row = .error er := by
  rw [lensS, if_pos hr, lenStep_is, hx]
  simp only
  have h1 : repT l p1 row (s : Int) = .error er := by
    unfold repT
    rw [hs]
    simp only
    rw [ht]
  rw [h1]
theorem lst_rep {v least k : Int} {wd M : Nat} (hr : row.length < n) (hx : nxS ns l p = .ok ((s : Int), p1)) (hs : repS row (s : Int) = .ok (v, least, wd)) (ht : takeS l p1 wd = .ok (k, p2)) (hM : least + k = M) : lensS ns l n (f + 1) p row = if (n : Int) - row.length < M then .error 6 else lensS ns l n f p2 (row ++ List.replicate M v) := by
  rw [lensS, if_pos hr, lenStep_is, hx]
  simp only
  have h1 : repT l p1 row (s : Int) = .ok (v, (M : Int), p2) := by
    unfold repT
    rw [hs]
    simp only
    rw [ht, ← hM]
  rw [h1]
  simp only
  by_cases h : (n : Int) - row.length < M
  · rw [if_pos h, if_pos h]
  · rw [if_neg h, if_neg h, Int.toNat_natCast]
end
theorem foot_only {T : TypeId} {k : IntKind} {w0 w : World} {base g p : Nat} {v : Value} {l out : List Int} (h : RS T k w0 base g (.slice none 0 0) l w p v out) : Only g w0 w :=
  ⟨h.foot.os, h.foot.tape, h.foot.output, h.foot.size, fun i hi hne => h.foot.block i hi (by rintro (e | e); { exact hne (by rw [e]) }; { simp [Value.ownBlock] at e })⟩
theorem sized_i64 (W : World) : (sizeOf (Tryz.prog.elem 83)).run Tryz.prog W = .ok 1 W := by kernel_rfl
theorem elem_i64 : Tryz.prog.underlying 83 = some (.slice (Tryz.prog.elem 83)) := by kernel_rfl
theorem cutI_h (g n c hi : Nat) (h : hi ≤ n) (hc : n ≤ c) (h0 : 0 < n) : (∀ W, (Instr.sliceAt 83 (.slice (some ⟨g, 0, none⟩) n c) none (some (.int .i64 hi)) none).run Tryz.prog W = .ok (.slice (some ⟨g, 0, none⟩) hi c) W) ∧ (∀ W, (Instr.slice 83 (.slice (some ⟨g, 0, none⟩) n c) none (some (.int .i64 hi)) none).run Tryz.prog W = .ok (.slice (some ⟨g, 0, none⟩) hi c) W) := by
  refine ⟨fun W => ?_, fun W => ?_⟩
  · rw [run_sliceAt_slice _ _ _ _ _ _ elem_i64]
    rw [run_slice_h W 83 (some ⟨g, 0, none⟩) n c elem_i64 .i64 hi (by omega) (by omega), sized_i64]
    simp [Result.andThen, sliced, Addr.add]
  rw [run_slice_h W 83 (some ⟨g, 0, none⟩) n c elem_i64 .i64 hi (by omega) (by omega), sized_i64]
  simp [Result.andThen, sliced, Addr.add]
theorem cutI_l (g n c lo : Nat) (h : lo ≤ n) (hc : n ≤ c) (h0 : lo < c) : (∀ W, (Instr.sliceAt 83 (.slice (some ⟨g, 0, none⟩) n c) (some (.int .i64 lo)) none none).run Tryz.prog W = .ok (.slice (some ⟨g, lo, none⟩) (n - lo) (c - lo)) W) ∧ (∀ W, (Instr.slice 83 (.slice (some ⟨g, 0, none⟩) n c) (some (.int .i64 lo)) none none).run Tryz.prog W = .ok (.slice (some ⟨g, lo, none⟩) (n - lo) (c - lo)) W) := by
  refine ⟨fun W => ?_, fun W => ?_⟩
  · rw [run_sliceAt_slice _ _ _ _ _ _ elem_i64]
    rw [run_slice_l W 83 (some ⟨g, 0, none⟩) n c elem_i64 .i64 lo (by omega) (by omega), sized_i64]
    have : ¬ c = lo := by omega
    simp [Result.andThen, sliced, Addr.add, this]
    try omega
  rw [run_slice_l W 83 (some ⟨g, 0, none⟩) n c elem_i64 .i64 lo (by omega) (by omega), sized_i64]
  have : ¬ c = lo := by omega
  simp [Result.andThen, sliced, Addr.add, this]
  try omega
theorem row_ints {w : World} {base g n c : Nat} {l : List Int} (h : w.ownsRow base 3 1 (.slice (some ⟨g, 0, none⟩) n c) n (l.map (Value.int .i64))) (hn : l.length = n) (hw : ∀ x ∈ l, 0 ≤ x ∧ x ≤ 18) (k : Nat) :
    Ints .i64 w w.heap.size (some ⟨g, 0, none⟩) (l.take k) ∧ Ints .i64 w w.heap.size (some ⟨g, k, none⟩) (l.drop k) := by
  have hg := (h.lt g rfl).2
  have hwf : ∀ x ∈ l, (Lit.int .i64 x).wf = true := fun x hx => by
    have := hw x hx
    simp [Lit.wf, IntKind.min, IntKind.max, IntKind.signed, IntKind.bits]; omega
  have hc : ∀ i, i < l.length → w.cell? ⟨g, i, none⟩ = some (.int .i64 (l.getD i 0)) := fun i hi => by
    rw [h.cellAt i (by omega), List.getElem?_map, List.getD_eq_getElem?_getD, List.getElem?_eq_getElem hi]; rfl
  refine ⟨⟨fun x hx => hwf x (List.mem_of_mem_take hx), fun _ => ⟨g, 0, rfl, hg, fun i hi => ?_⟩⟩, ⟨fun x hx => hwf x (List.mem_of_mem_drop hx), fun _ => ⟨g, k, rfl, hg, fun i hi => ?_⟩⟩⟩
  · rw [List.length_take] at hi
    rw [Nat.zero_add, hc i (by omega)]
    simp [List.getD_eq_getElem?_getD, show i < k by omega]
  · rw [List.length_drop] at hi
    rw [hc (k + i) (by omega)]
    simp [List.getD_eq_getElem?_getD]
set_option maxHeartbeats 8000000 in
theorem refTold {w : World} {g : Nat} {l : List Int} {p : Nat} (h : Rdr 136 w g l p) :
    Calls Tryz.prog 87 #[.pointer (some ⟨g, 0, none⟩)] w (TolR w g l (toldS l p)) := by
  have hg0 : g < w.heap.size := blk_lt h.choose_spec.choose_spec.1
  have hp := h.choose_spec.choose_spec.2.2.2.2.1
  obtain ⟨R0, hR0⟩ : ∃ R0, toldS l p = R0 := ⟨_, rfl⟩
  rw [hR0]
  have HR0 := Lib.hid hR0
  clear hR0
  cases h1 : takeS l p 5 with
  | error er =>
    have hcall := takeR_bad (by decide) h h1
    have HS := Lib.hid (HR0.out.symm.trans (told_1 h1))
    clear h h1 HR0
    go_enter Tryz.func87, Tryz.ntmps87
    go_wp2_with fail
    refine hcall.mono ?_
    rintro e w1 ⟨rfl, hne, _, ho1⟩
    have hd : (er != 0) = true := by simp [hne]
    have HF := Lib.hid (And.intro hne ho1)
    clear hcall hne ho1
    go_wp2_with fail
    go_ret3
    exact TolR.bad HS.out HF.out.1 HF.out.2
  | ok x =>
  obtain ⟨a, p1⟩ := x
  have hcall1 := takeR_ok (by decide) h h1
  obtain ⟨hav, hp1, _⟩ := takeS_val h1
  have hab := tk_bd l p 5
  rw [← hav] at hab
  obtain ⟨A, rfl⟩ := Int.eq_ofNat_of_zero_le hab.1
  clear hav
  cases h2 : takeS l p1 5 with
  | error er =>
    have HS := Lib.hid (HR0.out.symm.trans (told_2 h1 h2))
    clear h h1 HR0
    go_enter Tryz.func87, Tryz.ntmps87
    go_wp2_with fail
    refine hcall1.mono ?_
    rintro e w1 ⟨rfl, hr1, ho1⟩
    have hcall := takeR_bad (by decide) hr1 h2
    have HF := Lib.hid ho1
    clear hcall1 ho1 hr1 h2
    go_wp2_with fail
    refine hcall.mono ?_
    rintro e w2 ⟨rfl, hne, _, ho2⟩
    have hd : (er != 0) = true := by simp [hne]
    have HF2 := Lib.hid (And.intro hne (only_trans HF.out ho2))
    clear hcall hne ho2
    go_wp2_with fail
    go_ret3
    exact TolR.bad HS.out HF2.out.1 HF2.out.2
  | ok x =>
  obtain ⟨b, p2⟩ := x
  obtain ⟨hbv, hp2, _⟩ := takeS_val h2
  have hbb := tk_bd l p1 5
  rw [← hbv] at hbb
  obtain ⟨C, rfl⟩ := Int.eq_ofNat_of_zero_le hbb.1
  clear hbv
  cases h3 : takeS l p2 4 with
  | error er =>
    have HS := Lib.hid (HR0.out.symm.trans (told_3 h1 h2 h3))
    clear h h1 HR0
    go_enter Tryz.func87, Tryz.ntmps87
    go_wp2_with fail
    refine hcall1.mono ?_
    rintro e w1 ⟨rfl, hr1, ho1⟩
    have hcall2 := takeR_ok (by decide) hr1 h2
    have HF := Lib.hid ho1
    clear hcall1 ho1 hr1 h2
    go_wp2_with fail
    refine hcall2.mono ?_
    rintro e w2 ⟨rfl, hr2, ho2⟩
    have hcall := takeR_bad (by decide) hr2 h3
    have HF2 := Lib.hid (only_trans HF.out ho2)
    clear hcall2 ho2 hr2 h3 HF
    go_wp2_with fail
    refine hcall.mono ?_
    rintro e w3 ⟨rfl, hne, _, ho3⟩
    have hd : (er != 0) = true := by simp [hne]
    have HF3 := Lib.hid (And.intro hne (only_trans HF2.out ho3))
    clear hcall hne ho3
    go_wp2_with fail
    go_ret3
    exact TolR.bad HS.out HF3.out.1 HF3.out.2
  | ok x =>
  obtain ⟨dd, p3⟩ := x
  obtain ⟨hdv, hp3, hp38⟩ := takeS_val h3
  have hdb := tk_bd l p2 4
  rw [← hdv] at hdb
  obtain ⟨D, rfl⟩ := Int.eq_ofNat_of_zero_le hdb.1
  clear hdv
  rw [show (2 : Int) ^ 5 = 32 by decide] at hab hbb
  rw [show (2 : Int) ^ 4 = 16 by decide] at hdb
  rw [← hp3] at hp38
  have hs := HR0.out.symm.trans (told_4 h1 h2 h3)
  have HS := Lib.hid hs
  clear hs HR0 hp1 hp2 hp3 h
  go_enter Tryz.func87, Tryz.ntmps87
  go_wp2_with fail
  refine hcall1.mono ?_
  rintro e w1 ⟨rfl, hr1, ho1⟩
  have hcall2 := takeR_ok (by decide) hr1 h2
  have HF1 := Lib.hid ho1
  clear hcall1 ho1 hr1 h2
  go_wp2_with fail
  refine hcall2.mono ?_
  rintro e w2 ⟨rfl, hr2, ho2⟩
  have hcall3 := takeR_ok (by decide) hr2 h3
  have HF2 := Lib.hid (only_trans HF1.out ho2)
  clear hcall2 ho2 hr2 h3 HF1
  go_wp2_with fail
  refine hcall3.mono ?_
  rintro e w3 ⟨rfl, hr3, ho3⟩
  have HF3 := Lib.hid (And.intro hr3 (only_trans HF2.out ho3))
  have hsz3 := ho3.size
  have hsz2 := HF2.out.size
  clear hcall3 ho3 hr3 HF2 h1
  by_cases hbig : 286 < A + 257 ∨ 30 < C + 1
  · have hs := HS.out
    unfold toldC at hs
    rw [if_pos hbig] at hs
    have HE := Lib.hid hs
    clear hs
    by_cases hA : 286 < A + 257
    · go_wp2_with fail
      go_ret3
      exact TolR.bad HE.out (by decide) HF3.out.2
    · have hC : 30 < C + 1 := by omega
      go_wp2_with fail
      go_ret3
      exact TolR.bad HE.out (by decide) HF3.out.2
  · have hA : ¬ 286 < A + 257 := by omega
    have hC : ¬ 30 < C + 1 := by omega
    have hs := HS.out
    unfold toldC at hs
    rw [if_neg hbig] at hs
    have HS2 := Lib.hid hs
    clear hs HS hbig
    have hmk : ∀ W, (Instr.makeSlice 83 (.int .i64 19) (.int .i64 19)).run Tryz.prog W = .ok (.slice (some ⟨W.heap.size, 0, none⟩) 19 19) (W.alloc (.cells (arrN 19 fun _ => 0) 3)) := fun W => run_make_ints 19 (by decide) W
    obtain ⟨w4, hw4⟩ : ∃ w4, (w3.alloc (.cells #[.int .i64 16, .int .i64 17, .int .i64 18, .int .i64 0, .int .i64 8, .int .i64 7, .int .i64 9, .int .i64 6, .int .i64 10, .int .i64 5, .int .i64 11, .int .i64 4, .int .i64 12, .int .i64 3, .int .i64 13, .int .i64 2, .int .i64 14, .int .i64 1, .int .i64 15] 3)).alloc (.cells (arrN 19 fun _ => 0) 3) = w4 := ⟨_, rfl⟩
    have hb34 : Below w3.heap.size w3 w4 := by rw [← hw4]; exact ((Below.refl _ _).alloc (Nat.le_refl _) _).alloc (by simp) _
    have hn1 : w4.heap[w3.heap.size]? = some (.cells (arrN 19 fun i => ((tellO.getD i 0 : Nat) : Int)) 3 (0, 0)) := by rw [← hw4, ordCells, Below.heap_alloc _ _ _ (by simp)]; exact heap_alloc_new w3 _
    have hn2 : w4.heap[w3.heap.size + 1]? = some (.cells (arrN 19 (placed l p3 0)) 3 (0, 0)) := by
      rw [← hw4]
      have := heap_alloc_new (w3.alloc (.cells #[.int .i64 16, .int .i64 17, .int .i64 18, .int .i64 0, .int .i64 8, .int .i64 7, .int .i64 9, .int .i64 6, .int .i64 10, .int .i64 5, .int .i64 11, .int .i64 4, .int .i64 12, .int .i64 3, .int .i64 13, .int .i64 2, .int .i64 14, .int .i64 1, .int .i64 15] 3)) (.cells (arrN 19 fun _ => 0) 3)
      rw [show (w3.alloc (.cells #[.int .i64 16, .int .i64 17, .int .i64 18, .int .i64 0, .int .i64 8, .int .i64 7, .int .i64 9, .int .i64 6, .int .i64 10, .int .i64 5, .int .i64 11, .int .i64 4, .int .i64 12, .int .i64 3, .int .i64 13, .int .i64 2, .int .i64 14, .int .i64 1, .int .i64 15] 3)).heap.size = w3.heap.size + 1 by simp] at this
      rw [this]
      rfl
    have hr4 : Rdr 136 w4 g l p3 := rdr_low' HF3.out.1 hb34 (by omega)
    have ho4 : Only g w w4 := only_trans HF3.out.2 (below_only hb34)
    have HW4 := Lib.hid hw4
    have HQ := Lib.hid (And.intro hr4 (And.intro ho4 (And.intro hn1 hn2)))
    clear hw4 hb34 hn1 hn2 hr4 ho4 HF3
    go_wp2_with fail
    rw [HW4.out]
    clear hmk HW4
    have hgB : g < w3.heap.size := by omega
    have hwB : w.heap.size ≤ w3.heap.size := by omega
    generalize w3.heap.size = B at *
    go_loopw [11] (fun i wr => ∃ k : Nat, k ≤ D + 4 ∧ p3 + 3 * k ≤ 8 * l.length ∧ i = .int .i64 k ∧ Hid (Rdr 136 wr g l (p3 + 3 * k) ∧ Only g w wr ∧ wr.heap[B]? = some (.cells (arrN 19 fun i => ((tellO.getD i 0 : Nat) : Int)) 3 (0, 0)) ∧ wr.heap[B + 1]? = some (.cells (arrN 19 (placed l p3 k)) 3 (0, 0)))) (fun i _ => D + 4 - (intOf i).toNat)
    case atStart => exact ⟨0, Nat.zero_le _, by omega, rfl, HQ⟩
    case round =>
      obtain ⟨k, hk, hpk, rfl, H⟩ := hrel
      by_cases hlt : k < D + 4
      · have hk19 : k < 19 := by omega
        cases ht : takeS l (p3 + 3 * k) 3 with
        | error er =>
          have hcall := takeR_bad (by decide) H.out.1 ht
          have hshort : ¬ p3 + 3 * (D + 4) ≤ 8 * l.length := fun hle => by rw [takeS_ok (by omega)] at ht; cases ht
          have her : er = 2 := by unfold takeS at ht; split at ht; { cases ht }; { injection ht with ht; exact ht.symm }
          have hs := HS2.out
          unfold lcS at hs
          rw [if_neg hshort] at hs
          have HE := Lib.hid hs
          subst her
          clear hs ht hshort
          go_wp2_with fail
          refine hcall.mono ?_
          rintro e w5 ⟨rfl, hne, _, ho5⟩
          have HF := Lib.hid (only_trans H.out.2.1 ho5)
          clear hcall ho5
          go_wp2_with fail
          go_ret3
          exact TolR.bad HE.out (by decide) HF.out
        | ok x =>
          obtain ⟨v, q⟩ := x
          have hcall := takeR_ok (by decide) H.out.1 ht
          obtain ⟨hv, hq, hq8⟩ := takeS_val ht
          subst hq
          clear ht
          go_wp2_with fail
          refine hcall.mono ?_
          rintro e w5 ⟨rfl, hr5, ho5⟩
          have k1 : w5.heap[B]? = some (.cells (arrN 19 fun i => ((tellO.getD i 0 : Nat) : Int)) 3 (0, 0)) := (ho5.block _ (blk_lt H.out.2.2.1) (by intro e; injection e with e; omega)).trans H.out.2.2.1
          have k2 : w5.heap[B + 1]? = some (.cells (arrN 19 (placed l p3 k)) 3 (0, 0)) := (ho5.block _ (blk_lt H.out.2.2.2) (by intro e; injection e with e; omega)).trans H.out.2.2.2
          obtain ⟨t1, t2⟩ := tell_lt k hk19
          have d2 : w5.cell? ⟨B, k, none⟩ = some (.int .i64 ((tellO.getD k 0 : Nat) : Int)) := by rw [blk_cell k1, arrN_get _ _ hk19]
          have d4 := blk_free k2 (tellO.getD k 0)
          have hset := blk_set k2 (tellO.getD k 0) (.int .i64 v)
          rw [hv, arrN_set, placed_set l p3 k hk19] at hset
          rw [← hv] at hset
          have d3 : w5.cell? ⟨B + 1, tellO.getD k 0, none⟩ = some (.int .i64 (placed l p3 k (tellO.getD k 0))) := by rw [blk_cell k2, arrN_get _ _ t1]
          obtain ⟨O, hO⟩ : ∃ O, tellO.getD k 0 = O := ⟨_, rfl⟩
          rw [hO] at d2 d3 d4 hset t1
          have r1 := only_trans H.out.2.1 ho5
          have hog : Only g w (w5.setCell ⟨B + 1, O, none⟩ (.int .i64 v)) := ⟨r1.os, r1.tape, r1.output, by simpa [World.setCell] using r1.size, fun i hi hne => (Below.heap_setCell _ ⟨B + 1, O, none⟩ _ i (by show i ≠ B + 1; omega)).trans (r1.block i hi hne)⟩
          have hbs : Below (B + 1) w5 (w5.setCell ⟨B + 1, O, none⟩ (.int .i64 v)) := ⟨rfl, rfl, rfl, by simp [World.setCell], fun i hi => Below.heap_setCell _ ⟨B + 1, O, none⟩ _ i (by show i ≠ B + 1; omega)⟩
          have hr6 := rdr_low' hr5 hbs (by omega)
          have hk1 : (w5.setCell ⟨B + 1, O, none⟩ (.int .i64 v)).heap[B]? = some (.cells (arrN 19 fun i => ((tellO.getD i 0 : Nat) : Int)) 3 (0, 0)) := (hbs.block B (by omega)).trans k1
          have HE := Lib.hid (And.intro hr6 (And.intro hog (And.intro hk1 hset)))
          have hO0 : (0 : Int) ≤ (O : Int) := by omega
          have hO1 : (O : Int) < 19 := by omega
          clear hcall hr5 ho5 r1 hog hbs hr6 hk1 hset k1 k2 t2 hO hv H HS2
          go_wp2_with fail
          exact ⟨⟨k + 1, by omega, by omega, by go_num, by rw [show p3 + 3 * (k + 1) = p3 + 3 * k + 3 by omega]; exact HE⟩, by simp [intOf]; omega⟩
      · obtain rfl : k = D + 4 := by omega
        rename World => wN
        have hnw := refNew (w := wN) (some ⟨B + 1, 0, none⟩) 19 19 (someS l p3 (D + 4)) (by rw [someS_placed]; simp) (by decide) (someS_ints H.out.2.2.2) false
        have hs := HS2.out
        unfold lcS at hs
        rw [if_pos (by omega)] at hs
        have HS3 := Lib.hid hs
        have HZ := Lib.hid (And.intro H.out.1 H.out.2.1)
        clear hs HS2 H
        go_wp2_with fail
        refine hnw.mono ?_
        rintro e w5 ⟨hb5, cs, h32, hone, rfl, hcd⟩
        have hz := zeroC
        have hsz5 := hb5.size
        have hszr := HZ.out.2.size
        clear hnw
        by_cases he : errN (someS l p3 (D + 4)) false = 0
        · have hcd := hcd he
          rw [he]
          have hs := HS3.out
          rw [if_pos he] at hs
          simp only at hs
          have HS4 := Lib.hid hs
          have HCD := Lib.hid hcd
          have hkr := errN_zr he
          have hns19 : (nsOf (someS l p3 (D + 4))).length = 19 := by simp [nsOf, someS]
          obtain ⟨_, hin, hok⟩ := hkr
          have HKR := Lib.hid (And.intro (okN_kraft hok) (inR_le hin))
          clear hs HS3 hcd he hin hok
          go_wp2_with (refine code_st rfl rfl w5.heap.size rfl rfl h32 zero_size hone (heap_alloc_new w5 _) ?_)
          have hset := setRow_heap (w5.alloc (.cells zeroCode 145)) w5.heap.size _ cs _ _ (heap_alloc_new w5 (.cells zeroCode 145))
          have hoth : ∀ k, k < w5.heap.size → ((w5.alloc (.cells zeroCode 145)).setRow w5.heap.size cs).heap[k]? = w5.heap[k]? := fun k hk => (setRow_other _ _ _ _ (by omega)).trans (Below.heap_alloc w5 _ k hk)
          have hb6 : Below w5.heap.size w5 ((w5.alloc (.cells zeroCode 145)).setRow w5.heap.size cs) := low_setRow ((Below.refl w5.heap.size w5).alloc (Nat.le_refl _) _) (Nat.le_refl _) cs
          have hsz6 : ((w5.alloc (.cells zeroCode 145)).setRow w5.heap.size cs).heap.size = w5.heap.size + 1 := by rw [size_setRow]; simp
          generalize ((w5.alloc (.cells zeroCode 145)).setRow w5.heap.size cs) = w6 at *
          have hbr6 := below_next hb5 (Nat.le_refl _) hb6
          have hr6 := rdr_low' HZ.out.1 hbr6 (by omega)
          have ho6 := only_trans HZ.out.2 (below_only hbr6)
          have hcd := HCD.out.keep fun b hb => hoth b hb.2
          have HQ := Lib.hid (And.intro hr6 (And.intro ho6 (And.intro hcd hset)))
          clear hcd hset hoth hb6 hbr6 hr6 ho6 HCD hb5 HZ
          have hgb : g < w6.heap.size := by omega
          have hR : RS 3 .i64 w6 w6.heap.size g (.slice none 0 0) l w6 (p3 + 3 * (D + 4)) (.slice none 0 0) [] := ⟨HQ.out.1, OwnT.nil _ _, Foot.refl _ _, fun q e => by simp [Value.ownBlock] at e, hgb, Nat.le_refl _⟩
          have HR := Lib.hid hR
          clear hR
          obtain ⟨ns, hns⟩ : ∃ ns, nsOf (someS l p3 (D + 4)) = ns := ⟨_, rfl⟩
          rw [hns] at HS4 HKR hns19 HQ
          clear hns
          obtain ⟨RL, hRL⟩ : ∃ RL, lensS ns l (A + 257 + (C + 1)) (A + 257 + (C + 1) + 1) (p3 + 3 * (D + 4)) [] = RL := ⟨_, rfl⟩
          rw [hRL] at HS4
          have HRL := Lib.hid hRL.symm
          clear hRL
          have hbc : w5.heap.size < w6.heap.size := by omega
          go_wp2_with fail
          generalize w5.heap.size = bc at *
          go_loopg [15] (A + 257 + (C + 1)) (fun K vv wr => ∃ (p' f : Nat) (row : List Int) (a : Option Addr) (c : Nat), vv = .slice a row.length c ∧ A + 257 + (C + 1) + 1 ≤ row.length + f ∧ A + 257 + (C + 1) ≤ row.length + K ∧ row.length ≤ A + 257 + (C + 1) ∧ Hid (RL = lensS ns l (A + 257 + (C + 1)) f p' row ∧ RS 3 .i64 w6 w6.heap.size g (.slice none 0 0) l wr p' (.slice a row.length c) row ∧ (∀ x ∈ row, 0 ≤ x ∧ x ≤ 18)))
          case atStart => exact ⟨_, A + 257 + (C + 1) + 1, [], none, 0, rfl, by simp, by simp, by simp, Lib.hid ⟨HRL.out, HR.out, fun x hx => by cases hx⟩⟩
          case round =>
            obtain ⟨p', f, row, a, c, rfl, hf, hK, hrn, H⟩ := hrel
            obtain ⟨e1, hS, hrow⟩ := H.out
            have hbcc : wr.heap[bc]? = some (.cells cs 145 (0, 0)) := (hS.keep (by omega) (by omega) (by simp [Value.ownBlock])).trans HQ.out.2.2.2
            have hszw := hS.size
            have hfb : ∀ b, (wN.heap.size ≤ b ∧ b < bc) → b < wr.heap.size ∧ b ≠ g := fun b hb => ⟨by omega, by omega⟩
            have hcdr := HQ.out.2.2.1.keep fun b hb => hS.keep (b := b) (by have := hb.2; omega) (by have := hb.1; omega) (by simp [Value.ownBlock])
            obtain ⟨f, rfl⟩ : ∃ f', f = f' + 1 := ⟨f - 1, by omega⟩
            have hpp := hS.inl
            by_cases hlt : row.length < A + 257 + (C + 1)
            · have hlt' : decide ((row.length : Int) < (A : Int) + 257 + ((C : Int) + 1)) = true := by simp; omega
              cases hx : nxS ns l p' with
              | error er =>
                have hcall := nxtR_bad hfb hcdr HKR.out.2 HKR.out.1 hS.rdr hx
                have hs := HS4.out
                rw [e1, lst_bad hlt hx] at hs
                have HE := Lib.hid (And.intro hs hS)
                clear hcdr hS e1 hs hx H HR HRL hrow
                go_wp2_with (refine code_ld rfl rfl bc rfl h32 hbcc ?_)
                refine hcall.mono ?_
                rintro e w7 ⟨y, q, rfl, hne, hr7, ho7⟩
                have hd : (er != 0) = true := by simp [hne]
                have HF := Lib.hid (And.intro hne (only_trans HQ.out.2.1 (foot_only (HE.out.2.only ho7 hr7))))
                clear hcall hr7 ho7 hne hbcc
                go_wp2_with fail
                go_ret3
                exact TolR.bad HE.out.1 HF.out.1 HF.out.2
              | ok x =>
                obtain ⟨v, p1⟩ := x
                obtain ⟨⟨s, hs19, rfl⟩, hpp1, hp1⟩ := nxS_ok hpp hx
                have hcall := nxtR_ok hfb hcdr HKR.out.2 HKR.out.1 hS.rdr hx
                have hs18 : s ≤ 18 := by omega
                have HE := Lib.hid (And.intro e1 (And.intro hx (And.intro hS hrow)))
                clear hcdr hS e1 hx H HR HRL hrow hs19
                go_wp2_with (refine code_ld rfl rfl bc rfl h32 hbcc ?_)
                refine hcall.mono ?_
                rintro e w7 ⟨rfl, hr7, ho7⟩
                have HS2R := Lib.hid (HE.out.2.2.1.only ho7 hr7)
                clear hcall hr7 ho7 hbcc
                by_cases hlit : s < 16
                · have hs := lst_lit (f := f) hlt hp1 HE.out.2.1 hlit
                  have HT := Lib.hid (HE.out.1.trans hs)
                  have hown := HS2R.out.own.is.2
                  have hsz7 := HS2R.out.size
                  clear hs
                  go_wp2_with (at_builtin; refine wpList_appG 83 3 (.int .i64 0) 8 Tryz.underlying83 int_info rfl rfl _ _ rfl w6.heap.size (.slice a row.length c) row.length (row.map (Value.int .i64)) rfl (hown.alloc _) (some ⟨w7.heap.size, 0, none⟩) 1 1 [.int .i64 s] rfl rfl (src_one w7 _ _) (by intro u hu; simp at hu; subst hu; rfl) (by simp) (by simp only [maxLen]; omega) (by omega) (by simp; omega) ?_; intro v8 w8 o8 g8 l8; obtain ⟨a8, c8, rfl⟩ := own_shape o8)
                  have hR8 := (HS2R.out.below ((Below.refl _ _).alloc (Nat.le_refl _) (.cells #[.int .i64 s] 3))).grown (x := [(s : Int)]) (by rw [List.map_append]; exact o8) (by simp) g8 l8
                  have H8 := Lib.hid hR8
                  clear o8 g8 l8 hR8 hown
                  go_roundg (A + 257 + (C + 1) - (row.length + 1))
                  case measure => omega
                  case rel =>
                    exact ⟨p1, f, row ++ [(s : Int)], a8, c8, by simp, by simp; omega, by simp; omega, by simp; omega, Lib.hid ⟨HT.out, by simpa using H8.out, fun x hx => by
                      rcases List.mem_append.1 hx with h | h
                      · exact HE.out.2.2.2 x h
                      · rw [List.mem_singleton.1 h]; omega⟩⟩
                · by_cases h16 : s = 16
                  · subst h16
                    by_cases h0 : row.length = 0
                    · have hs := HS4.out
                      rw [HE.out.1, lst_none hlt h0 HE.out.2.1] at hs
                      have HX := Lib.hid hs
                      clear hs
                      have h00 : ((row.length : Int) == 0) = true := by simp [h0]
                      go_wp2_with fail
                      go_ret3
                      exact TolR.bad HX.out (by decide) (only_trans HQ.out.2.1 (foot_only HS2R.out))
                    · have hrep : repS row ((16 : Nat) : Int) = .ok (row.getD (row.length - 1) 0, 3, 2) := by unfold repS; rw [if_pos (by omega), if_neg h0]
                      have hown0 := HS2R.out.own.is.2
                      obtain ⟨gq, rfl⟩ : ∃ gq, a = some ⟨gq, 0, none⟩ := by
                        rcases hown0.2 with ⟨e, hn⟩ | ⟨gq, cap, cur, e, _⟩
                        · omega
                        · injection e with e1 e2 e3
                          exact ⟨gq, e1⟩
                      obtain ⟨J, hJ⟩ : ∃ J : Nat, row.length - 1 = J := ⟨_, rfl⟩
                      have hJ1 : (row.length : Int) - 1 = (J : Int) := by omega
                      have hJ2 : J < row.length := by omega
                      have hcell : w7.cell? ⟨gq, J, none⟩ = some (.int .i64 (row.getD J 0)) := by
                        rw [hown0.cellAt J (by omega), List.getElem?_map, List.getD_eq_getElem?_getD, List.getElem?_eq_getElem hJ2]; rfl
                      have hXb := HE.out.2.2.2 (row.getD J 0) (by rw [List.getD_eq_getElem?_getD, List.getElem?_eq_getElem hJ2]; exact List.getElem_mem hJ2)
                      rw [hJ] at hrep
                      obtain ⟨X, hX⟩ : ∃ X, row.getD J 0 = X := ⟨_, rfl⟩
                      rw [hX] at hcell hXb hrep
                      clear hX hJ hown0
                      have hcall2 := fun W (hr : Rdr 136 W g l p1) => hr
                      cases ht : takeS l p1 2 with
                      | error er =>
                        have hcall := takeR_bad (by decide) HS2R.out.rdr ht
                        have hs := HS4.out
                        rw [HE.out.1, lst_short hlt HE.out.2.1 hrep ht] at hs
                        have HT := Lib.hid hs
                        clear hs ht hcall2
                        go_wp2_with fail
                        refine hcall.mono ?_
                        rintro e w8 ⟨rfl, hne, hr8, ho8⟩
                        have hd : (er != 0) = true := by simp [hne]
                        have HF := Lib.hid (And.intro hne (only_trans HQ.out.2.1 (foot_only (HS2R.out.only ho8 hr8))))
                        clear hcall hr8 ho8 hne
                        go_wp2_with fail
                        go_ret3
                        exact TolR.bad HT.out HF.out.1 HF.out.2
                      | ok y =>
                        obtain ⟨k, p2⟩ := y
                        obtain ⟨hkv, hp2, hp28⟩ := takeS_val ht
                        rw [← hp2] at hp28
                        have hkb := tk_bd l p1 2
                        rw [← hkv] at hkb
                        have hkb2 : k < 128 := by have := hkb.2; rw [show (2 : Int) ^ 2 = 4 by decide] at this; omega
                        obtain ⟨M, hM⟩ := Int.eq_ofNat_of_zero_le (show (0 : Int) ≤ k + 3 by omega)
                        have hM1 : 3 ≤ M := by omega
                        have hM2 : M < 140 := by omega
                        have hcall := takeR_ok (by decide) HS2R.out.rdr ht
                        have hs := lst_rep (n := A + 257 + (C + 1)) (f := f) hlt HE.out.2.1 hrep ht (M := M) (by omega)
                        have HT := Lib.hid (And.intro (HE.out.1.trans hs) HE.out.2.2.2)
                        clear hs ht hkv hcall2 hkb hp2
                        go_wp2_with fail
                        refine hcall.mono ?_
                        rintro e w8 ⟨rfl, hr8, ho8⟩
                        have HS8 := Lib.hid (HS2R.out.only ho8 hr8)
                        clear hcall hr8 ho8
                        go_wp2_with fail
                        have hM' : (M : Int) - ((0 : Nat) : Int) = (M : Int) := by simp
                        go_loopw [15, 21] (fun vv nv wq => ∃ (j : Nat) (a : Option Addr) (c : Nat), j ≤ M ∧ nv = .int .i64 ((M : Int) - (j : Int)) ∧ vv = .slice a (row.length + j) c ∧ Hid (RS 3 .i64 w6 w6.heap.size g (.slice none 0 0) l wq p2 (.slice a (row.length + j) c) (row ++ List.replicate j X))) (fun _ nv _ => (intOf nv).toNat)
                        case atStart => exact ⟨0, _, c, Nat.zero_le _, by rw [← hM]; simp, rfl, by simpa using HS8⟩
                        case round =>
                          obtain ⟨j, a6, c6, hj, rfl, rfl, HI⟩ := hrel
                          by_cases hjl : j < M
                          · have hown := HI.out.own.is.2
                            have hszi := HI.out.size
                            have hll : (row ++ List.replicate j X).length = row.length + j := by simp
                            have hn0 : decide ((0 : Int) < (M : Int) - (j : Int)) = true := by simp; omega
                            have HLL := Lib.hid hll
                            clear hll hM'
                            go_wp2_with (at_builtin; refine wpList_appG 83 3 (.int .i64 0) 8 Tryz.underlying83 int_info rfl rfl _ _ rfl w6.heap.size (.slice a6 (row.length + j) c6) (row.length + j) ((row ++ List.replicate j X).map (Value.int .i64)) rfl (hown.alloc _) (some ⟨wr.heap.size, 0, none⟩) 1 1 [.int .i64 X] rfl rfl (src_one wr _ _) (by intro u hu; simp at hu; subst hu; rfl) (by simp) (by simp only [maxLen]; omega) (by omega) (by simp; omega) ?_; intro v9 w9 o9 g9 l9; obtain ⟨a9, c9, rfl⟩ := own_shape o9)
                            have hR9 := (HI.out.below ((Below.refl _ _).alloc (Nat.le_refl _) (.cells #[.int .i64 X] 3))).grown (x := [X]) (by rw [List.map_append]; exact o9) (by rw [List.length_append, HLL.out]; rfl) g9 l9
                            rw [List.append_assoc, ← List.replicate_succ'] at hR9
                            have H9 := Lib.hid hR9
                            clear o9 g9 l9 hR9 hown
                            case roundEnd => exact ⟨⟨j + 1, a9, c9, by omega, by go_num, by rw [Nat.add_assoc], H9⟩, by simp [intOf]; omega⟩
                          · have hj' : j = M := by omega
                            subst hj'
                            have hn0 : decide ((0 : Int) < (j : Int) - (j : Int)) = false := by simp
                            by_cases hlong : ((A + 257 + (C + 1) : Nat) : Int) - row.length < j
                            · have hs := HS4.out
                              rw [HT.out.1, if_pos hlong] at hs
                              have HX := Lib.hid hs
                              have hd2 : decide ((A : Int) + 257 + ((C : Int) + 1) < (row.length : Int) + (j : Int)) = true := by simp; omega
                              clear hs hM' hlong
                              go_wp2_with fail
                              go_ret3
                              exact TolR.bad HX.out (by decide) (only_trans HQ.out.2.1 (foot_only HI.out))
                            · have hs := HT.out.1
                              rw [if_neg hlong] at hs
                              have HX := Lib.hid hs
                              have hd2 : decide ((A : Int) + 257 + ((C : Int) + 1) < (row.length : Int) + (j : Int)) = false := by simp; omega
                              clear hs hM'
                              go_wp2_with fail
                              go_roundg (A + 257 + (C + 1) - (row.length + j))
                              case measure => omega
                              case rel =>
                                exact ⟨p2, f, row ++ List.replicate j X, a6, c6, by simp, by simp; omega, by simp; omega, by simp; omega, Lib.hid ⟨HX.out, by simpa using HI.out, fun x hx => by
                                  rcases List.mem_append.1 hx with h | h
                                  · exact HT.out.2 x h
                                  · rw [List.eq_of_mem_replicate h]; exact hXb⟩⟩
                  · by_cases h17 : s = 17
                    · subst h17
                      have hrep : repS row ((17 : Nat) : Int) = .ok (0, 3, 3) := by unfold repS; rw [if_neg (by omega), if_pos (by omega)]
                      have hcall2 := fun W (hr : Rdr 136 W g l p1) => hr
                      cases ht : takeS l p1 3 with
                      | error er =>
                        have hcall := takeR_bad (by decide) HS2R.out.rdr ht
                        have hs := HS4.out
                        rw [HE.out.1, lst_short hlt HE.out.2.1 hrep ht] at hs
                        have HT := Lib.hid hs
                        clear hs ht hcall2
                        go_wp2_with fail
                        refine hcall.mono ?_
                        rintro e w8 ⟨rfl, hne, hr8, ho8⟩
                        have hd : (er != 0) = true := by simp [hne]
                        have HF := Lib.hid (And.intro hne (only_trans HQ.out.2.1 (foot_only (HS2R.out.only ho8 hr8))))
                        clear hcall hr8 ho8 hne
                        go_wp2_with fail
                        go_ret3
                        exact TolR.bad HT.out HF.out.1 HF.out.2
                      | ok y =>
                        obtain ⟨k, p2⟩ := y
                        obtain ⟨hkv, hp2, hp28⟩ := takeS_val ht
                        rw [← hp2] at hp28
                        have hkb := tk_bd l p1 3
                        rw [← hkv] at hkb
                        have hkb2 : k < 128 := by have := hkb.2; rw [show (2 : Int) ^ 3 = 8 by decide] at this; omega
                        obtain ⟨M, hM⟩ := Int.eq_ofNat_of_zero_le (show (0 : Int) ≤ k + 3 by omega)
                        have hM1 : 3 ≤ M := by omega
                        have hM2 : M < 140 := by omega
                        have hcall := takeR_ok (by decide) HS2R.out.rdr ht
                        have hs := lst_rep (n := A + 257 + (C + 1)) (f := f) hlt HE.out.2.1 hrep ht (M := M) (by omega)
                        have HT := Lib.hid (And.intro (HE.out.1.trans hs) HE.out.2.2.2)
                        clear hs ht hkv hcall2 hkb hp2
                        go_wp2_with fail
                        refine hcall.mono ?_
                        rintro e w8 ⟨rfl, hr8, ho8⟩
                        have HS8 := Lib.hid (HS2R.out.only ho8 hr8)
                        clear hcall hr8 ho8
                        go_wp2_with fail
                        have hM' : (M : Int) - ((0 : Nat) : Int) = (M : Int) := by simp
                        go_loopw [15, 21] (fun vv nv wq => ∃ (j : Nat) (a : Option Addr) (c : Nat), j ≤ M ∧ nv = .int .i64 ((M : Int) - (j : Int)) ∧ vv = .slice a (row.length + j) c ∧ Hid (RS 3 .i64 w6 w6.heap.size g (.slice none 0 0) l wq p2 (.slice a (row.length + j) c) (row ++ List.replicate j 0))) (fun _ nv _ => (intOf nv).toNat)
                        case atStart => exact ⟨0, a, c, Nat.zero_le _, by rw [← hM]; simp, rfl, by simpa using HS8⟩
                        case round =>
                          obtain ⟨j, a6, c6, hj, rfl, rfl, HI⟩ := hrel
                          by_cases hjl : j < M
                          · have hown := HI.out.own.is.2
                            have hszi := HI.out.size
                            have hll : (row ++ List.replicate j 0).length = row.length + j := by simp
                            have hn0 : decide ((0 : Int) < (M : Int) - (j : Int)) = true := by simp; omega
                            have HLL := Lib.hid hll
                            clear hll hM'
                            go_wp2_with (at_builtin; refine wpList_appG 83 3 (.int .i64 0) 8 Tryz.underlying83 int_info rfl rfl _ _ rfl w6.heap.size (.slice a6 (row.length + j) c6) (row.length + j) ((row ++ List.replicate j 0).map (Value.int .i64)) rfl (hown.alloc _) (some ⟨wr.heap.size, 0, none⟩) 1 1 [.int .i64 0] rfl rfl (src_one wr _ _) (by intro u hu; simp at hu; subst hu; rfl) (by simp) (by simp only [maxLen]; omega) (by omega) (by simp; omega) ?_; intro v9 w9 o9 g9 l9; obtain ⟨a9, c9, rfl⟩ := own_shape o9)
                            have hR9 := (HI.out.below ((Below.refl _ _).alloc (Nat.le_refl _) (.cells #[.int .i64 0] 3))).grown (x := [0]) (by rw [List.map_append]; exact o9) (by rw [List.length_append, HLL.out]; rfl) g9 l9
                            rw [List.append_assoc, ← List.replicate_succ'] at hR9
                            have H9 := Lib.hid hR9
                            clear o9 g9 l9 hR9 hown
                            case roundEnd => exact ⟨⟨j + 1, a9, c9, by omega, by go_num, by rw [Nat.add_assoc], H9⟩, by simp [intOf]; omega⟩
                          · have hj' : j = M := by omega
                            subst hj'
                            have hn0 : decide ((0 : Int) < (j : Int) - (j : Int)) = false := by simp
                            by_cases hlong : ((A + 257 + (C + 1) : Nat) : Int) - row.length < j
                            · have hs := HS4.out
                              rw [HT.out.1, if_pos hlong] at hs
                              have HX := Lib.hid hs
                              have hd2 : decide ((A : Int) + 257 + ((C : Int) + 1) < (row.length : Int) + (j : Int)) = true := by simp; omega
                              clear hs hM' hlong
                              go_wp2_with fail
                              go_ret3
                              exact TolR.bad HX.out (by decide) (only_trans HQ.out.2.1 (foot_only HI.out))
                            · have hs := HT.out.1
                              rw [if_neg hlong] at hs
                              have HX := Lib.hid hs
                              have hd2 : decide ((A : Int) + 257 + ((C : Int) + 1) < (row.length : Int) + (j : Int)) = false := by simp; omega
                              clear hs hM'
                              go_wp2_with fail
                              go_roundg (A + 257 + (C + 1) - (row.length + j))
                              case measure => omega
                              case rel =>
                                exact ⟨p2, f, row ++ List.replicate j 0, a6, c6, by simp, by simp; omega, by simp; omega, by simp; omega, Lib.hid ⟨HX.out, by simpa using HI.out, fun x hx => by
                                  rcases List.mem_append.1 hx with h | h
                                  · exact HT.out.2 x h
                                  · rw [List.eq_of_mem_replicate h]; exact ⟨by decide, by decide⟩⟩⟩
                    · obtain rfl : s = 18 := by omega
                      have hrep : repS row ((18 : Nat) : Int) = .ok (0, 11, 7) := by unfold repS; rw [if_neg (by omega), if_neg (by omega), if_pos (by omega)]
                      have hcall2 := fun W (hr : Rdr 136 W g l p1) => hr
                      cases ht : takeS l p1 7 with
                      | error er =>
                        have hcall := takeR_bad (by decide) HS2R.out.rdr ht
                        have hs := HS4.out
                        rw [HE.out.1, lst_short hlt HE.out.2.1 hrep ht] at hs
                        have HT := Lib.hid hs
                        clear hs ht hcall2
                        go_wp2_with fail
                        refine hcall.mono ?_
                        rintro e w8 ⟨rfl, hne, hr8, ho8⟩
                        have hd : (er != 0) = true := by simp [hne]
                        have HF := Lib.hid (And.intro hne (only_trans HQ.out.2.1 (foot_only (HS2R.out.only ho8 hr8))))
                        clear hcall hr8 ho8 hne
                        go_wp2_with fail
                        go_ret3
                        exact TolR.bad HT.out HF.out.1 HF.out.2
                      | ok y =>
                        obtain ⟨k, p2⟩ := y
                        obtain ⟨hkv, hp2, hp28⟩ := takeS_val ht
                        rw [← hp2] at hp28
                        have hkb := tk_bd l p1 7
                        rw [← hkv] at hkb
                        have hkb2 : k < 128 := by have := hkb.2; rw [show (2 : Int) ^ 7 = 128 by decide] at this; omega
                        obtain ⟨M, hM⟩ := Int.eq_ofNat_of_zero_le (show (0 : Int) ≤ k + 11 by omega)
                        have hM1 : 11 ≤ M := by omega
                        have hM2 : M < 140 := by omega
                        have hcall := takeR_ok (by decide) HS2R.out.rdr ht
                        have hs := lst_rep (n := A + 257 + (C + 1)) (f := f) hlt HE.out.2.1 hrep ht (M := M) (by omega)
                        have HT := Lib.hid (And.intro (HE.out.1.trans hs) HE.out.2.2.2)
                        clear hs ht hkv hcall2 hkb hp2
                        go_wp2_with fail
                        refine hcall.mono ?_
                        rintro e w8 ⟨rfl, hr8, ho8⟩
                        have HS8 := Lib.hid (HS2R.out.only ho8 hr8)
                        clear hcall hr8 ho8
                        go_wp2_with fail
                        have hM' : (M : Int) - ((0 : Nat) : Int) = (M : Int) := by simp
                        go_loopw [15, 21] (fun vv nv wq => ∃ (j : Nat) (a : Option Addr) (c : Nat), j ≤ M ∧ nv = .int .i64 ((M : Int) - (j : Int)) ∧ vv = .slice a (row.length + j) c ∧ Hid (RS 3 .i64 w6 w6.heap.size g (.slice none 0 0) l wq p2 (.slice a (row.length + j) c) (row ++ List.replicate j 0))) (fun _ nv _ => (intOf nv).toNat)
                        case atStart => exact ⟨0, a, c, Nat.zero_le _, by rw [← hM]; simp, rfl, by simpa using HS8⟩
                        case round =>
                          obtain ⟨j, a6, c6, hj, rfl, rfl, HI⟩ := hrel
                          by_cases hjl : j < M
                          · have hown := HI.out.own.is.2
                            have hszi := HI.out.size
                            have hll : (row ++ List.replicate j 0).length = row.length + j := by simp
                            have hn0 : decide ((0 : Int) < (M : Int) - (j : Int)) = true := by simp; omega
                            have HLL := Lib.hid hll
                            clear hll hM'
                            go_wp2_with (at_builtin; refine wpList_appG 83 3 (.int .i64 0) 8 Tryz.underlying83 int_info rfl rfl _ _ rfl w6.heap.size (.slice a6 (row.length + j) c6) (row.length + j) ((row ++ List.replicate j 0).map (Value.int .i64)) rfl (hown.alloc _) (some ⟨wr.heap.size, 0, none⟩) 1 1 [.int .i64 0] rfl rfl (src_one wr _ _) (by intro u hu; simp at hu; subst hu; rfl) (by simp) (by simp only [maxLen]; omega) (by omega) (by simp; omega) ?_; intro v9 w9 o9 g9 l9; obtain ⟨a9, c9, rfl⟩ := own_shape o9)
                            have hR9 := (HI.out.below ((Below.refl _ _).alloc (Nat.le_refl _) (.cells #[.int .i64 0] 3))).grown (x := [0]) (by rw [List.map_append]; exact o9) (by rw [List.length_append, HLL.out]; rfl) g9 l9
                            rw [List.append_assoc, ← List.replicate_succ'] at hR9
                            have H9 := Lib.hid hR9
                            clear o9 g9 l9 hR9 hown
                            case roundEnd => exact ⟨⟨j + 1, a9, c9, by omega, by go_num, by rw [Nat.add_assoc], H9⟩, by simp [intOf]; omega⟩
                          · have hj' : j = M := by omega
                            subst hj'
                            have hn0 : decide ((0 : Int) < (j : Int) - (j : Int)) = false := by simp
                            by_cases hlong : ((A + 257 + (C + 1) : Nat) : Int) - row.length < j
                            · have hs := HS4.out
                              rw [HT.out.1, if_pos hlong] at hs
                              have HX := Lib.hid hs
                              have hd2 : decide ((A : Int) + 257 + ((C : Int) + 1) < (row.length : Int) + (j : Int)) = true := by simp; omega
                              clear hs hM' hlong
                              go_wp2_with fail
                              go_ret3
                              exact TolR.bad HX.out (by decide) (only_trans HQ.out.2.1 (foot_only HI.out))
                            · have hs := HT.out.1
                              rw [if_neg hlong] at hs
                              have HX := Lib.hid hs
                              have hd2 : decide ((A : Int) + 257 + ((C : Int) + 1) < (row.length : Int) + (j : Int)) = false := by simp; omega
                              clear hs hM'
                              go_wp2_with fail
                              go_roundg (A + 257 + (C + 1) - (row.length + j))
                              case measure => omega
                              case rel =>
                                exact ⟨p2, f, row ++ List.replicate j 0, a6, c6, by simp, by simp; omega, by simp; omega, by simp; omega, Lib.hid ⟨HX.out, by simpa using HI.out, fun x hx => by
                                  rcases List.mem_append.1 hx with h | h
                                  · exact HT.out.2 x h
                                  · rw [List.eq_of_mem_replicate h]; exact ⟨by decide, by decide⟩⟩⟩
            · have hrl : row.length = A + 257 + (C + 1) := by omega
              have e2 : RL = .ok (p', row) := by rw [e1, lensS, if_neg hlt]
              have hs := HS4.out
              rw [e2] at hs
              simp only at hs
              have hown0 := hS.own.is.2
              obtain ⟨gq, rfl⟩ : ∃ gq, a = some ⟨gq, 0, none⟩ := by
                rcases hown0.2 with ⟨e, hn⟩ | ⟨gq, cap, cur, e, _⟩
                · omega
                · injection e with e1 e2 e3
                  exact ⟨gq, e1⟩
              have hcap := own_cap hown0
              have hcell : wr.cell? ⟨gq, 256, none⟩ = some (.int .i64 (row.getD 256 0)) := by
                rw [hown0.cellAt 256 (by omega), List.getElem?_map, List.getD_eq_getElem?_getD, List.getElem?_eq_getElem (by omega)]; rfl
              have hri := row_ints hown0 rfl hrow (A + 257)
              have hlt' : decide ((row.length : Int) < (A : Int) + 257 + ((C : Int) + 1)) = false := by simp; omega
              obtain ⟨X, hX⟩ : ∃ X, row.getD 256 0 = X := ⟨_, rfl⟩
              rw [hX] at hs hcell
              have hx256 : (256 : Int) < (row.length : Int) := by omega
              have HE := Lib.hid (And.intro hs (And.intro hS (And.intro hri hrl)))
              obtain ⟨r1, r1'⟩ := cutI_h gq row.length c (A + 257) (by omega) hcap.1 (by omega)
              obtain ⟨r2, r2'⟩ := cutI_l gq row.length c (A + 257) (by omega) hcap.1 (by omega)
              rw [show ((A + 257 : Nat) : Int) = (A : Int) + 257 by omega] at r1 r2 r1' r2'
              have e3 : row.length - (A + 257) = C + 1 := by omega
              rw [e3] at r2 r2'
              clear hX hs hS hri hrl e1 e2 hcdr hown0 hrow H HR HRL e3
              by_cases hX0 : X = 0
              · subst hX0
                have hs := HE.out.1
                rw [if_pos rfl] at hs
                have HX := Lib.hid hs
                clear hs
                go_wp2_with fail
                go_ret3
                exact TolR.bad HX.out (by decide) (only_trans HQ.out.2.1 (foot_only HE.out.2.1))
              · have hs := HE.out.1
                rw [if_neg hX0] at hs
                have hX1 : (X == 0) = false := by simp [hX0]
                have HX := Lib.hid hs
                clear hs
                go_wp2_with fail
                go_quiet (fail)
                go_wp2_with fail
                go_ret3
                refine ⟨?_, .inl ⟨p', row, A + 257, C + 1, some ⟨gq, 0, none⟩, c, some ⟨gq, A + 257, none⟩, c - (A + 257), HX.out, rfl, ?_, HE.out.2.2.2, by omega, by omega, ?_, ?_⟩⟩
                · exact only_drewN (only_trans HQ.out.2.1 (foot_only HE.out.2.1)) _
                · exact HE.out.2.1.rdr
                · exact HE.out.2.2.1.1
                · exact HE.out.2.2.1.2
        · have hs := HS3.out
          rw [if_neg he] at hs
          have hd : (errN (someS l p3 (D + 4)) false != 0) = true := by simp [he]
          have HS4 := Lib.hid (And.intro hs he)
          clear hs HS3 hcd he
          generalize errN (someS l p3 (D + 4)) false = er at *
          go_wp2_with (refine code_st rfl rfl w5.heap.size rfl rfl h32 zero_size hone (heap_alloc_new w5 _) ?_)
          have hset := setRow_heap (w5.alloc (.cells zeroCode 145)) w5.heap.size _ cs _ _ (heap_alloc_new w5 (.cells zeroCode 145))
          have hoth : ∀ k, k < w5.heap.size → ((w5.alloc (.cells zeroCode 145)).setRow w5.heap.size cs).heap[k]? = w5.heap[k]? := fun k hk => (setRow_other _ _ _ _ (by omega)).trans (Below.heap_alloc w5 _ k hk)
          have hb6 : Below w5.heap.size w5 ((w5.alloc (.cells zeroCode 145)).setRow w5.heap.size cs) := low_setRow ((Below.refl w5.heap.size w5).alloc (Nat.le_refl _) _) (Nat.le_refl _) cs
          have hsz6 : ((w5.alloc (.cells zeroCode 145)).setRow w5.heap.size cs).heap.size = w5.heap.size + 1 := by rw [size_setRow]; simp
          generalize ((w5.alloc (.cells zeroCode 145)).setRow w5.heap.size cs) = w6 at *
          have hbr6 := below_next hb5 (Nat.le_refl _) hb6
          have hr6 := rdr_low' HZ.out.1 hbr6 (by omega)
          have ho6 := only_trans HZ.out.2 (below_only hbr6)
          have HF := Lib.hid ho6
          clear hset hoth hb6 hbr6 hr6 ho6 hb5
          go_wp2_with fail
          go_ret3
          exact TolR.bad HS4.out.1 HS4.out.2 HF.out
end Go.Proofs.YtdcpibglbanchaaGreatDoor
