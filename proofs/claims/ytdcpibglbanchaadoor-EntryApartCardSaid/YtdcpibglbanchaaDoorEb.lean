/- The document's own archive reader, first part: contracts of samovarref09's num, sign, End. Condition: the bytes are bytes. The document's own archive reader, second part: contract of samovarref09.central. Condition: the bytes are bytes. -/
import Derived.Test.YtdcpibglbanchaaDoorDv
import Derived.Test.YtdcpibglbanchaaDoorNe
set_option linter.unusedVariables false
set_option maxRecDepth 100000
namespace Go.Proofs.YtdcpibglbanchaaDoor
open Go.RowKit Go.Maps Go.ChangeMaps

/-- do these four signs stand there? -/
def sgB (l : List Int) (p : Nat) (x y : Int) : Bool := l.getD p 0 == 80 && (l.getD (p + 1) 0 == 75 && (l.getD (p + 2) 0 == x && l.getD (p + 3) 0 == y))
theorem sgB_1 (l : List Int) (p : Nat) : sgB l p 3 4 = (kindL l p == 1) := by
  unfold sgB kindL sigF
  generalize l.getD p 0 = a
  generalize l.getD (p + 1) 0 = b
  generalize l.getD (p + 2) 0 = c
  generalize l.getD (p + 3) 0 = d
  by_cases h1 : a = 80 <;> by_cases h2 : b = 75 <;> by_cases h3 : c = 3 <;> by_cases h4 : d = 4 <;> by_cases h5 : c = 1 <;> by_cases h6 : d = 2 <;> by_cases h7 : c = 5 <;> by_cases h8 : d = 6 <;> simp [h1, h2, h3, h4, h5, h6, h7, h8] <;> omega
theorem sgB_2 (l : List Int) (p : Nat) : sgB l p 1 2 = (kindL l p == 2) := by
  unfold sgB kindL sigF
  generalize l.getD p 0 = a
  generalize l.getD (p + 1) 0 = b
  generalize l.getD (p + 2) 0 = c
  generalize l.getD (p + 3) 0 = d
  by_cases h1 : a = 80 <;> by_cases h2 : b = 75 <;> by_cases h3 : c = 3 <;> by_cases h4 : d = 4 <;> by_cases h5 : c = 1 <;> by_cases h6 : d = 2 <;> by_cases h7 : c = 5 <;> by_cases h8 : d = 6 <;> simp [h1, h2, h3, h4, h5, h6, h7, h8] <;> omega
theorem sgB_3 (l : List Int) (p : Nat) : sgB l p 5 6 = (kindL l p == 3) := by
  unfold sgB kindL sigF
  generalize l.getD p 0 = a
  generalize l.getD (p + 1) 0 = b
  generalize l.getD (p + 2) 0 = c
  generalize l.getD (p + 3) 0 = d
  by_cases h1 : a = 80 <;> by_cases h2 : b = 75 <;> by_cases h3 : c = 3 <;> by_cases h4 : d = 4 <;> by_cases h5 : c = 1 <;> by_cases h6 : d = 2 <;> by_cases h7 : c = 5 <;> by_cases h8 : d = 6 <;> simp [h1, h2, h3, h4, h5, h6, h7, h8] <;> omega
theorem epS_mono (l : List Int) {k n : Nat} (h : k ≤ n) : (epS l k).2 ≤ (epS l n).2 := by
  induction n with
  | zero => obtain rfl : k = 0 := by omega
            exact Nat.le_refl _
  | succ n ih =>
    rcases Nat.lt_or_ge k (n + 1) with q | q
    · have := ih (by omega)
      have h2 : (epS l n).2 ≤ (epS l (n + 1)).2 := by
        show _ ≤ (if endC l n then (n, (epS l n).2 + 1) else epS l n).2
        split
        · exact Nat.le_succ _
        · exact Nat.le_refl _
      omega
    · obtain rfl : k = n + 1 := by omega
      exact Nat.le_refl _
/-- where the only end record is; -1: there is none, or more than one -/
def endV (l : List Int) (k : Nat) : Int := if (epS l k).2 = 1 then (epS l k).1 else -1
def endP (l : List Int) : Int := endV l (l.length - 21)
theorem endV_0 {l : List Int} {k : Nat} (h : (epS l k).2 = 0) : endV l k = -1 := by unfold endV; rw [if_neg (by omega)]
theorem endV_1 {l : List Int} {k : Nat} (h : (epS l k).2 = 1) : endV l k = (epS l k).1 := by unfold endV; rw [if_pos h]
theorem endV_2 {l : List Int} {k : Nat} (h : ¬ (epS l k).2 = 1) : endV l k = -1 := by unfold endV; rw [if_neg h]
theorem endV_same {l : List Int} {k k' : Nat} (h : epS l k = epS l k') : endV l k = endV l k' := by unfold endV; rw [h]
end Go.Proofs.YtdcpibglbanchaaDoor

set_option linter.unusedVariables false
set_option maxRecDepth 100000
namespace Go.Proofs.YtdcpibglbanchaaDoor
open Go.RowKit Go.Maps Go.ChangeMaps

theorem numL_bd2 {l : List Int} (hl : Bytes l) (p : Int) : 0 ≤ numL l p 2 ∧ numL l p 2 ≤ 65535 := by
  unfold numL O2.LT
  split
  · exact ⟨by decide, by decide⟩
  · split
    · exact ⟨by decide, by decide⟩
    · rename_i h1 h2
      have hlen := O2.piece_len (l := l) (at_ := p) (n := 2) (by omega) (by omega)
      have hby : Bytes (O2.piece l p 2).reverse := Bytes.reverse ((hl.drop _).take _)
      have hb := O2.big_bd _ hby
      rw [List.length_reverse, hlen] at hb
      have e : (256 : Int) ^ (2 : Int).toNat = 65536 := by decide
      rw [e] at hb
      unfold O2.numW
      show 0 ≤ wrap64 _ ∧ wrap64 _ ≤ _
      unfold wrap64
      omega
/-- the records of central records at these places, their packed bytes not found yet -/
def recP (l : List Int) (ps : List Nat) : List Value := ps.flatMap fun p => recC l (p, 0)
def placeV (ps : List Nat) : List Value := ps.map fun p => Value.int .i64 (p : Nat)
/-- the two rows that the document's reader makes -/
structure CW (w wr : World) (V1 V2 : Value) (q : Nat) (X1 X2 : List Value) : Prop where
  low : Below w.heap.size w wr
  r1 : wr.ownsRow w.heap.size 30 7 V1 q X1
  r2 : wr.ownsRow w.heap.size 3 1 V2 q X2
theorem CW.below {w wr w' : World} {V1 V2 : Value} {q : Nat} {X1 X2 : List Value} (h : CW w wr V1 V2 q X1 X2) (hb : Below wr.heap.size wr w') : CW w w' V1 V2 q X1 X2 :=
  ⟨below_next h.low (Nat.le_refl _) hb, own_below h.r1 hb, own_below h.r2 hb⟩
theorem own_apart {w : World} {base : Nat} {T1 T2 : TypeId} {k1 k2 n1 n2 : Nat} {v1 v2 : Value} {xs ys : List Value} (h1 : w.ownsRow base T1 k1 v1 n1 xs) (h2 : w.ownsRow base T2 k2 v2 n2 ys) (hT : T1 ≠ T2) : v2.ownBlock = none ∨ v2.ownBlock ≠ v1.ownBlock := by
  rcases h2.2 with ⟨rfl, _⟩ | ⟨g2, c2, cur2, rfl, _, hg2, _⟩
  · exact .inl rfl
  · rcases h1.2 with ⟨rfl, _⟩ | ⟨g1, c1, cur1, rfl, _, hg1, _⟩
    · exact .inr (by simp [Value.ownBlock])
    · refine .inr (fun e => ?_)
      simp [Value.ownBlock] at e
      subst e
      rw [hg1] at hg2
      injection hg2 with hg2
      injection hg2 with _ hg2
      exact hT hg2
/-- the flags, one after the other -/
def fl1 (f : Nat) : Nat := if f / 2 % 2 = 1 then f - 2 else f
def fl2 (f : Nat) : Nat := if fl1 f / 4 % 2 = 1 then fl1 f - 4 else fl1 f
def fl3 (f : Nat) : Nat := if fl2 f / 2048 % 2 = 1 then fl2 f - 2048 else fl2 f
def flS (f j : Nat) : Nat := if j = 0 then f else if j = 1 then fl1 f else if j = 2 then fl2 f else fl3 f
theorem fl3_is (f : Nat) : fl3 f = flN f := rfl
theorem flS_le (f j : Nat) : flS f j ≤ f := by
  have h1 : fl1 f ≤ f := by unfold fl1; split <;> omega
  have h2 : fl2 f ≤ f := by unfold fl2; split <;> omega
  have h3 : fl3 f ≤ f := by unfold fl3; split <;> omega
  unfold flS
  repeat' split
  all_goals omega
theorem cw_app {w w14 w15 : World} {o : Obj} {v' v2 u : Value} {q : Nat} {X1 X2 : List Value} {x : Value} (h : Below w.heap.size w w14 ∧ w14.ownsRow w.heap.size 30 7 v' (q + 1) X1 ∧ w14.ownsRow w.heap.size 3 1 u q X2) (h15 : w15.ownsRow w.heap.size 3 1 v2 (q + 1) (X2 ++ [x])) (hg : (w14.alloc o).grownBy w15 u.ownBlock) : Hid (CW w w15 v' v2 (q + 1) X1 (X2 ++ [x])) :=
  Lib.hid ⟨grown_below h.1 h.1.size h.2.2 hg, (h.2.1.alloc o).kept hg (own_apart (h.2.2.alloc o) (h.2.1.alloc o) (by decide)), h15⟩
theorem recP_at {l : List Int} {ps : List Nat} {k p j : Nat} (h : ps[k]? = some p) (hj : j < 7) : (recP l ps)[k * 7 + j]? = (recC l (p, 0))[j]? := by
  have hk : k < ps.length := (List.getElem?_eq_some_iff.1 h).1
  have h1 : ps = ps.take k ++ p :: ps.drop (k + 1) := by
    have : ps.drop k = p :: ps.drop (k + 1) := by rw [List.drop_eq_getElem?_toList_append, h]; rfl
    rw [← this, List.take_append_drop]
  have h2 : ((ps.take k).flatMap fun p => recC l (p, 0)).length = k * 7 := by
    rw [flat_len (k := 7) (fun x hx => recC_len l (x, 0)), List.length_take]; congr 1; omega
  unfold recP
  conv => lhs; rw [h1]
  rw [List.flatMap_append, List.flatMap_cons, List.getElem?_append_right (by omega), h2, show k * 7 + j - k * 7 = j by omega, List.getElem?_append_left (by rw [recC_len]; exact hj)]
theorem recP_len (l : List Int) (ps : List Nat) : (recP l ps).length = ps.length * 7 := flat_len (fun x hx => recC_len l (x, 0))
theorem y_bldR {a : Act} {w : World} {o : Oper} {x0 x1 x2 x3 x4 x6 : Operand} {s : ByteArray} {m pk sz sm hd : Int} (ho : o.op = .build 30 #[(0, x0), (1, x1), (4, x4), (2, x2), (3, x3), (6, x6)]) (h0 : a.eval x0 = .string s) (h1 : a.eval x1 = .int .i64 m) (h4 : a.eval x4 = .int .i64 sm) (h2 : a.eval x2 = .int .i64 pk) (h3 : a.eval x3 = .int .i64 sz) (h6 : a.eval x6 = .int .i64 hd) :
    (execOp a.eval o).run Tryd.prog w = .ok (.value (.agg #[.string s, .int .i64 m, .int .i64 pk, .int .i64 sz, .int .i64 sm, .int .i64 0, .int .i64 hd])) w := by
  have hr : (Instr.build 30 #[(0, .string s), (1, .int .i64 m), (4, .int .i64 sm), (2, .int .i64 pk), (3, .int .i64 sz), (6, .int .i64 hd)]).run Tryd.prog w = .ok (.agg #[.string s, .int .i64 m, .int .i64 pk, .int .i64 sz, .int .i64 sm, .int .i64 0, .int .i64 hd]) w := by kernel_rfl
  unfold execOp
  simp only [ho, List.map_toArray, List.map, h0, h1, h2, h3, h4, h6, Sem.run_bind, hr]
  rfl
theorem tq_form (f d : Nat) : (((f : Int) / (d : Int)) % 2 == 1) = decide (f / d % 2 = 1) := by
  have e : (((f : Int) / (d : Int)) % 2) = ((f / d % 2 : Nat) : Int) := by simp
  rw [e]
  by_cases h : f / d % 2 = 1
  · rw [h]; rfl
  · rw [decide_eq_false h]
    have : ((f / d % 2 : Nat) : Int) ≠ 1 := by omega
    simpa using this
section
variable {w : World} {b : Option Addr} {c : Nat} {l : List Int} {F T N : Nat}
/-- what central answers -/
def RcnP (l : List Int) (T F N : Nat) (w : World) (e : Ending) (w' : World) : Prop :=
  (∃ er, cenS l T N F [] = .error er ∧ er ≠ 0 ∧ e = .returned (.tuple #[.slice none 0 0, .slice none 0 0, .int .i64 er]) ∧ Below w.heap.size w w') ∨
  (∃ ps V1 V2, cenS l T N F [] = .ok ps ∧ e = .returned (.tuple #[V1, V2, .int .i64 0]) ∧ CW w w' V1 V2 ps.length (recP l ps) (placeV ps))
end
end Go.Proofs.YtdcpibglbanchaaDoor
