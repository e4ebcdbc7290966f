/- The document's own archive reader, first part: contracts of samovarref09's num, sign, End. Condition: the bytes are bytes. The document's own archive reader, second part: contract of samovarref09.central. Condition: the bytes are bytes. -/
import Derived.Test.YtdcpibglbanchaaGreatDoorDv
import Derived.Test.YtdcpibglbanchaaGreatDoorNe
set_option linter.unusedVariables false
set_option maxRecDepth 100000
namespace Go.Proofs.YtdcpibglbanchaaGreatDoor
open Go.RowKit Go.Maps Go.ChangeMaps

theorem refNum {w : World} {b : Option Addr} {c : Nat} {l : List Int} (hc : l.length ≤ c) (hm : l.length ≤ 65536) (hb : Bs w w.heap.size b l) (p k : Int) (hp : -9223372036854775808 ≤ p ∧ p ≤ 9223372036854775807) (hk : -9223372036854775808 ≤ k ∧ k ≤ 9223372036854775807) :
    Calls Tryz.prog 51 #[.slice b l.length c, .int .i64 p, .int .i64 k] w fun e w' => e = .returned (.int .i64 (numL l p k)) ∧ Below w.heap.size w w' := by
  have hlt := O2.refLittle b c l p k hp hk hc (by omega) w hb
  clear hb
  unfold numL
  go_enter Tryz.func51, Tryz.ntmps51
  go_wp2_with fail
  refine hlt.mono ?_
  rintro e w' ⟨rfl, hb'⟩
  have HB := Lib.hid hb'
  clear hlt hb'
  go_wp2_with fail
  go_ret
  exact ⟨rfl, HB.out⟩
/-- do these four signs stand there? -/
def sgB (l : List Int) (p : Nat) (x y : Int) : Bool := l.getD p 0 == 80 && (l.getD (p + 1) 0 == 75 && (l.getD (p + 2) 0 == x && l.getD (p + 3) 0 == y))
theorem sgB_1 (l : List Int) (p : Nat) : sgB l p 3 4 = (kindL l p == 1) := by
  unfold sgB kindL sigF
  generalize l.getD p 0 = a
  generalize l.getD (p + 1) 0 = b
  generalize l.getD (p + 2) 0 = c
  generalize l.getD (p + 3) 0 = d
  by_cases h1 : a = 80 <;> by_cases h2 : b = 75 <;> by_cases h3 : c = 3 <;> by_cases h4 : d = 4 <;> by_cases h5 : c = 1 <;> by_cases h6 : d = 2 <;> by_cases h7 : c = 5 <;> by_cases h8 : d = 6 <;> simp [h1, h2, h3, h4, h5, h6, h7, h8] <;> omega
theorem sgB_2 (l : List Int) (p : Nat) : sgB l p 1 2 = (kindL l p == 2) := by
  unfold sgB kindL sigF
  generalize l.getD p 0 = a
  generalize l.getD (p + 1) 0 = b
  generalize l.getD (p + 2) 0 = c
  generalize l.getD (p + 3) 0 = d
  by_cases h1 : a = 80 <;> by_cases h2 : b = 75 <;> by_cases h3 : c = 3 <;> by_cases h4 : d = 4 <;> by_cases h5 : c = 1 <;> by_cases h6 : d = 2 <;> by_cases h7 : c = 5 <;> by_cases h8 : d = 6 <;> simp [h1, h2, h3, h4, h5, h6, h7, h8] <;> omega
theorem sgB_3 (l : List Int) (p : Nat) : sgB l p 5 6 = (kindL l p == 3) := by
  unfold sgB kindL sigF
  generalize l.getD p 0 = a
  generalize l.getD (p + 1) 0 = b
  generalize l.getD (p + 2) 0 = c
  generalize l.getD (p + 3) 0 = d
  by_cases h1 : a = 80 <;> by_cases h2 : b = 75 <;> by_cases h3 : c = 3 <;> by_cases h4 : d = 4 <;> by_cases h5 : c = 1 <;> by_cases h6 : d = 2 <;> by_cases h7 : c = 5 <;> by_cases h8 : d = 6 <;> simp [h1, h2, h3, h4, h5, h6, h7, h8] <;> omega
set_option maxHeartbeats 2000000 in
theorem refSign {w : World} {B : Nat} {b : Option Addr} {c : Nat} {l : List Int} (hm : l.length ≤ 65536) (hb : Bs w B b l) (p : Nat) (hp : p + 4 ≤ l.length) (x y : Int) :
    Calls Tryz.prog 54 #[.slice b l.length c, .int .i64 p, .int .u8 x, .int .u8 y] w fun e w' => e = .returned (.bool (sgB l p x y)) ∧ w' = w := by
  obtain ⟨bb, off, rfl, _, hcell⟩ := hb.2 (by omega)
  have k0 := hcell p (by omega)
  have k1 := hcell (p + 1) (by omega)
  have k2 := hcell (p + 2) (by omega)
  have k3 := hcell (p + 3) (by omega)
  unfold sgB
  generalize l.getD p 0 = a at *
  generalize l.getD (p + 1) 0 = b at *
  generalize l.getD (p + 2) 0 = d at *
  generalize l.getD (p + 3) 0 = e at *
  clear hcell hb
  cases h1 : a == 80 <;> cases h2 : b == 75 <;> cases h3 : d == x <;> cases h4 : e == y
  all_goals
    go_enter Tryz.func54, Tryz.ntmps54
    go_wp2_with fail
    go_ret
    exact ⟨rfl, rfl⟩
theorem epS_mono (l : List Int) {k n : Nat} (h : k ≤ n) : (epS l k).2 ≤ (epS l n).2 := by
  induction n with
  | zero => obtain rfl : k = 0 := by omega
            exact Nat.le_refl _
  | succ n ih =>
    rcases Nat.lt_or_ge k (n + 1) with q | q
    · have := ih (by omega)
      have h2 : (epS l n).2 ≤ (epS l (n + 1)).2 := by
        show _ ≤ (if endC l n then (n, (epS l n).2 + 1) else epS l n).2
        split
        · exact Nat.le_succ _
        · exact Nat.le_refl _
      omega
    · obtain rfl : k = n + 1 := by omega
      exact Nat.le_refl _
/-- where the only end record is; -1: there is none, or more than one -/
def endV (l : List Int) (k : Nat) : Int := if (epS l k).2 = 1 then (epS l k).1 else -1
def endP (l : List Int) : Int := endV l (l.length - 21)
theorem endV_0 {l : List Int} {k : Nat} (h : (epS l k).2 = 0) : endV l k = -1 := by unfold endV; rw [if_neg (by omega)]
theorem endV_1 {l : List Int} {k : Nat} (h : (epS l k).2 = 1) : endV l k = (epS l k).1 := by unfold endV; rw [if_pos h]
theorem endV_2 {l : List Int} {k : Nat} (h : ¬ (epS l k).2 = 1) : endV l k = -1 := by unfold endV; rw [if_neg h]
theorem endV_same {l : List Int} {k k' : Nat} (h : epS l k = epS l k') : endV l k = endV l k' := by unfold endV; rw [h]
set_option maxHeartbeats 4000000 in
theorem refEnd {w : World} {b : Option Addr} {c : Nat} {l : List Int} (hc : l.length ≤ c) (hm : l.length ≤ 65536) (hb : Bs w w.heap.size b l) :
    Calls Tryz.prog 29 #[.slice b l.length c] w fun e w' => e = .returned (.int .i64 (endP l)) ∧ Below w.heap.size w w' := by
  have HB := Lib.hid hb
  clear hb
  obtain ⟨M, hM⟩ : ∃ M : Nat, l.length - 21 = M := ⟨_, rfl⟩
  unfold endP
  rw [hM]
  have HM := Lib.hid hM
  clear hM
  go_enter Tryz.func29, Tryz.ntmps29
  go_wp2_with fail
  go_loopw [3, 4] (fun v i wr => ∃ q : Nat, q ≤ M ∧ i = .int .i64 q ∧ v = .int .i64 (endV l q) ∧ Hid ((epS l q).2 ≤ 1 ∧ Below w.heap.size w wr)) (fun _ i _ => M - (intOf i).toNat)
  case atStart => exact ⟨0, Nat.zero_le _, rfl, rfl, Lib.hid ⟨Nat.zero_le _, Below.refl _ _⟩⟩
  case round =>
    obtain ⟨q, hq, rfl, rfl, HI⟩ := hrel
    have hp1 := (epS_le l q).1
    obtain ⟨P, hP⟩ : ∃ P, (epS l q).1 = P := ⟨_, rfl⟩
    obtain ⟨N, hN⟩ : ∃ N, (epS l q).2 = N := ⟨_, rfl⟩
    obtain ⟨v0, hv0⟩ : ∃ v0, endV l q = v0 := ⟨_, rfl⟩
    have hN1 := HI.out.1
    have hv : (N = 0 ∧ v0 = -1) ∨ (N = 1 ∧ v0 = P) := by
      by_cases h : (epS l q).2 = 1
      · exact .inr ⟨by omega, by rw [← hv0, endV_1 h, hP]⟩
      · exact .inl ⟨by omega, by rw [← hv0, endV_2 h]⟩
    have hbr : Bs wr wr.heap.size b l := HB.out.next HI.out.2
    by_cases hlt : q < M
    · have hq22 : q + 22 ≤ l.length := by have := HM.out; omega
      have hsg := refSign (c := c) hm hbr q (by omega) 5 6
      have hnu := refNum (w := wr) hc hm hbr ((q : Int) + 20) 2 (by omega) (by decide)
      have hstep : epS l (q + 1) = if numL l ((q : Int) + 20) 2 = (l.length : Int) - 22 - q ∧ kindL l q = 3 then (q, (epS l q).2 + 1) else epS l q := rfl
      rw [sgB_3] at hsg
      have hmono := epS_mono l (show q + 1 ≤ M by omega)
      rw [hN] at hN1 hstep
      rw [hP] at hp1
      rw [hv0]
      have HS := Lib.hid (And.intro hstep (And.intro hP (And.intro hN (And.intro hmono hv0))))
      clear hstep hP hN hmono hbr hv0
      generalize numL l ((q : Int) + 20) 2 = N1 at *
      generalize kindL l q = K1 at *
      have hd1 : decide ((q : Int) + 22 ≤ (l.length : Int)) = true := by simp; omega
      by_cases e2 : K1 = 3
      · have t2 : (K1 == 3) = true := by simp [e2]
        rw [t2] at hsg
        by_cases e1 : N1 = (l.length : Int) - q - 22
        · have t1 : (N1 == (l.length : Int) - q - 22) = true := by simp [e1]
          have hS : epS l (q + 1) = (q, N + 1) := by rw [HS.out.1, if_pos ⟨by omega, e2⟩]
          have HS2 := Lib.hid hS
          clear hS e1 e2 t2
          go_wp2_with fail
          refine hsg.mono ?_
          rintro e w1 ⟨rfl, rfl⟩
          clear hsg
          go_wp2_with fail
          refine hnu.mono ?_
          rintro e w2 ⟨rfl, hb2⟩
          have H2 := Lib.hid (below_next HI.out.2 (Nat.le_refl _) hb2)
          clear hnu hb2
          rcases hv with ⟨rfl, rfl⟩ | ⟨rfl, rfl⟩
          rotate_left
          · have hE : endV l M = -1 := endV_2 (by have := HS.out.2.2.2.1; rw [HS2.out] at this; simp only at this; omega)
            have HE := Lib.hid hE
            clear hE
            go_wp2_with fail
            go_ret
            exact ⟨by rw [HE.out]; rfl, H2.out⟩
          · go_wp2_with fail
            go_roundw
            case rel => exact ⟨q + 1, by omega, by go_num, by rw [endV_1 (by rw [HS2.out]), HS2.out], Lib.hid ⟨by rw [HS2.out]; exact Nat.le_refl _, H2.out⟩⟩
            case measure => simp [intOf]; omega
        · have t1 : (N1 == (l.length : Int) - q - 22) = false := by simp [e1]
          have hS : epS l (q + 1) = epS l q := by rw [HS.out.1, if_neg (fun h => e1 (by omega))]
          have HS2 := Lib.hid hS
          clear hS e1 e2 t2
          go_wp2_with fail
          refine hsg.mono ?_
          rintro e w1 ⟨rfl, rfl⟩
          clear hsg
          go_wp2_with fail
          refine hnu.mono ?_
          rintro e w2 ⟨rfl, hb2⟩
          have H2 := Lib.hid (below_next HI.out.2 (Nat.le_refl _) hb2)
          clear hnu hb2
          go_wp2_with fail
          go_roundw
          case rel => exact ⟨q + 1, by omega, by go_num, by rw [endV_same HS2.out, HS.out.2.2.2.2], Lib.hid ⟨by rw [HS2.out]; exact HI.out.1, H2.out⟩⟩
          case measure => simp [intOf]; omega
      · have t2 : (K1 == 3) = false := by simp [e2]
        rw [t2] at hsg
        have hS : epS l (q + 1) = epS l q := by rw [HS.out.1, if_neg (fun h => e2 h.2)]
        have HS2 := Lib.hid hS
        clear hS e2 t2 hnu
        go_wp2_with fail
        refine hsg.mono ?_
        rintro e w1 ⟨rfl, rfl⟩
        clear hsg
        go_wp2_with fail
        go_roundw
        case rel => exact ⟨q + 1, by omega, by go_num, by rw [endV_same HS2.out, HS.out.2.2.2.2], Lib.hid ⟨by rw [HS2.out]; exact HI.out.1, HI.out.2⟩⟩
        case measure => simp [intOf]; omega
    · obtain rfl : M = q := by omega
      have hd1 : decide ((M : Int) + 22 ≤ (l.length : Int)) = false := by have := HM.out; simp; omega
      have hd2 : ¬ ((M : Int) + 22 ≤ (l.length : Int)) := by have := HM.out; omega
      have hMb : M ≤ 65536 := by have := HM.out; omega
      have H2 := Lib.hid HI.out.2
      rw [hv0]
      have HV := Lib.hid hv0
      clear hP hN hbr hv0 hv
      go_wp2_with fail
      go_ret
      exact ⟨by rw [HV.out]; rfl, H2.out⟩
end Go.Proofs.YtdcpibglbanchaaGreatDoor

set_option linter.unusedVariables false
set_option maxRecDepth 100000
namespace Go.Proofs.YtdcpibglbanchaaGreatDoor
open Go.RowKit Go.Maps Go.ChangeMaps

theorem numL_bd2 {l : List Int} (hl : Bytes l) (p : Int) : 0 ≤ numL l p 2 ∧ numL l p 2 ≤ 65535 := by
  unfold numL O2.LT
  split
  · exact ⟨by decide, by decide⟩
  · split
    · exact ⟨by decide, by decide⟩
    · rename_i h1 h2
      have hlen := O2.piece_len (l := l) (at_ := p) (n := 2) (by omega) (by omega)
      have hby : Bytes (O2.piece l p 2).reverse := Bytes.reverse ((hl.drop _).take _)
      have hb := O2.big_bd _ hby
      rw [List.length_reverse, hlen] at hb
      have e : (256 : Int) ^ (2 : Int).toNat = 65536 := by decide
      rw [e] at hb
      unfold O2.numW
      show 0 ≤ wrap64 _ ∧ wrap64 _ ≤ _
      unfold wrap64
      omega
/-- the records of central records at these places, their packed bytes not found yet -/
def recP (l : List Int) (ps : List Nat) : List Value := ps.flatMap fun p => recC l (p, 0)
def placeV (ps : List Nat) : List Value := ps.map fun p => Value.int .i64 (p : Nat)
/-- the two rows that the document's reader makes -/
structure CW (w wr : World) (V1 V2 : Value) (q : Nat) (X1 X2 : List Value) : Prop where
  low : Below w.heap.size w wr
  r1 : wr.ownsRow w.heap.size 44 7 V1 q X1
  r2 : wr.ownsRow w.heap.size 3 1 V2 q X2
theorem CW.below {w wr w' : World} {V1 V2 : Value} {q : Nat} {X1 X2 : List Value} (h : CW w wr V1 V2 q X1 X2) (hb : Below wr.heap.size wr w') : CW w w' V1 V2 q X1 X2 :=
  ⟨below_next h.low (Nat.le_refl _) hb, own_below h.r1 hb, own_below h.r2 hb⟩
theorem own_apart {w : World} {base : Nat} {T1 T2 : TypeId} {k1 k2 n1 n2 : Nat} {v1 v2 : Value} {xs ys : List Value} (h1 : w.ownsRow base T1 k1 v1 n1 xs) (h2 : w.ownsRow base T2 k2 v2 n2 ys) (hT : T1 ≠ T2) : v2.ownBlock = none ∨ v2.ownBlock ≠ v1.ownBlock := by
  rcases h2.2 with ⟨rfl, _⟩ | ⟨g2, c2, cur2, rfl, _, hg2, _⟩
  · exact .inl rfl
  · rcases h1.2 with ⟨rfl, _⟩ | ⟨g1, c1, cur1, rfl, _, hg1, _⟩
    · exact .inr (by simp [Value.ownBlock])
    · refine .inr (fun e => ?_)
      simp [Value.ownBlock] at e
      subst e
      rw [hg1] at hg2
      injection hg2 with hg2
      injection hg2 with _ hg2
      exact hT hg2
/-- the flags, one after the other -/
def fl1 (f : Nat) : Nat := if f / 2 % 2 = 1 then f - 2 else f
def fl2 (f : Nat) : Nat := if fl1 f / 4 % 2 = 1 then fl1 f - 4 else fl1 f
def fl3 (f : Nat) : Nat := if fl2 f / 2048 % 2 = 1 then fl2 f - 2048 else fl2 f
def flS (f j : Nat) : Nat := if j = 0 then f else if j = 1 then fl1 f else if j = 2 then fl2 f else fl3 f
theorem fl3_is (f : Nat) : fl3 f = flN f := rfl
theorem flS_le (f j : Nat) : flS f j ≤ f := by
  have h1 : fl1 f ≤ f := by unfold fl1; split <;> omega
  have h2 : fl2 f ≤ f := by unfold fl2; split <;> omega
  have h3 : fl3 f ≤ f := by unfold fl3; split <;> omega
  unfold flS
  repeat' split
  all_goals omega
theorem cw_app {w w14 w15 : World} {o : Obj} {v' v2 u : Value} {q : Nat} {X1 X2 : List Value} {x : Value} (h : Below w.heap.size w w14 ∧ w14.ownsRow w.heap.size 44 7 v' (q + 1) X1 ∧ w14.ownsRow w.heap.size 3 1 u q X2) (h15 : w15.ownsRow w.heap.size 3 1 v2 (q + 1) (X2 ++ [x])) (hg : (w14.alloc o).grownBy w15 u.ownBlock) : Hid (CW w w15 v' v2 (q + 1) X1 (X2 ++ [x])) :=
  Lib.hid ⟨grown_below h.1 h.1.size h.2.2 hg, (h.2.1.alloc o).kept hg (own_apart (h.2.2.alloc o) (h.2.1.alloc o) (by decide)), h15⟩
theorem recP_at {l : List Int} {ps : List Nat} {k p j : Nat} (h : ps[k]? = some p) (hj : j < 7) : (recP l ps)[k * 7 + j]? = (recC l (p, 0))[j]? := by
  have hk : k < ps.length := (List.getElem?_eq_some_iff.1 h).1
  have h1 : ps = ps.take k ++ p :: ps.drop (k + 1) := by
    have : ps.drop k = p :: ps.drop (k + 1) := by rw [List.drop_eq_getElem?_toList_append, h]; rfl
    rw [← this, List.take_append_drop]
  have h2 : ((ps.take k).flatMap fun p => recC l (p, 0)).length = k * 7 := by
    rw [flat_len (k := 7) (fun x hx => recC_len l (x, 0)), List.length_take]; congr 1; omega
  unfold recP
  conv => lhs; rw [h1]
  rw [List.flatMap_append, List.flatMap_cons, List.getElem?_append_right (by omega), h2, show k * 7 + j - k * 7 = j by omega, List.getElem?_append_left (by rw [recC_len]; exact hj)]
theorem recP_len (l : List Int) (ps : List Nat) : (recP l ps).length = ps.length * 7 := flat_len (fun x hx => recC_len l (x, 0))
theorem y_bldR {a : Act} {w : World} {o : Oper} {x0 x1 x2 x3 x4 x6 : Operand} {s : ByteArray} {m pk sz sm hd : Int} (ho : o.op = .build 44 #[(0, x0), (1, x1), (4, x4), (2, x2), (3, x3), (6, x6)]) (h0 : a.eval x0 = .string s) (h1 : a.eval x1 = .int .i64 m) (h4 : a.eval x4 = .int .i64 sm) (h2 : a.eval x2 = .int .i64 pk) (h3 : a.eval x3 = .int .i64 sz) (h6 : a.eval x6 = .int .i64 hd) :
    (execOp a.eval o).run Tryz.prog w = .ok (.value (.agg #[.string s, .int .i64 m, .int .i64 pk, .int .i64 sz, .int .i64 sm, .int .i64 0, .int .i64 hd])) w := by
  have hr : (Instr.build 44 #[(0, .string s), (1, .int .i64 m), (4, .int .i64 sm), (2, .int .i64 pk), (3, .int .i64 sz), (6, .int .i64 hd)]).run Tryz.prog w = .ok (.agg #[.string s, .int .i64 m, .int .i64 pk, .int .i64 sz, .int .i64 sm, .int .i64 0, .int .i64 hd]) w := by kernel_rfl
  unfold execOp
  simp only [ho, List.map_toArray, List.map, h0, h1, h2, h3, h4, h6, Sem.run_bind, hr]
  rfl
theorem tq_form (f d : Nat) : (((f : Int) / (d : Int)) % 2 == 1) = decide (f / d % 2 = 1) := by
  have e : (((f : Int) / (d : Int)) % 2) = ((f / d % 2 : Nat) : Int) := by simp
  rw [e]
  by_cases h : f / d % 2 = 1
  · rw [h]; rfl
  · rw [decide_eq_false h]
    have : ((f / d % 2 : Nat) : Int) ≠ 1 := by omega
    simpa using this
section
variable {w : World} {b : Option Addr} {c : Nat} {l : List Int} {F T N : Nat}
/-- what central answers -/
def RcnP (l : List Int) (T F N : Nat) (w : World) (e : Ending) (w' : World) : Prop :=
  (∃ er, cenS l T N F [] = .error er ∧ er ≠ 0 ∧ e = .returned (.tuple #[.slice none 0 0, .slice none 0 0, .int .i64 er]) ∧ Below w.heap.size w w') ∨
  (∃ ps V1 V2, cenS l T N F [] = .ok ps ∧ e = .returned (.tuple #[V1, V2, .int .i64 0]) ∧ CW w w' V1 V2 ps.length (recP l ps) (placeV ps))
set_option maxHeartbeats 16000000 in
theorem refCentral (hc : l.length ≤ c) (hm : l.length ≤ 65536) (hb : Bs w w.heap.size b l) (hT : T ≤ l.length) (hF : F ≤ T) (hN : N ≤ 64) :
    Calls Tryz.prog 52 #[.slice b l.length c, .int .i64 F, .int .i64 T, .int .i64 N] w (RcnP l T F N w) := by
  have HB := Lib.hid hb
  have hB := hb.1
  clear hb
  go_enter Tryz.func52, Tryz.ntmps52
  go_wp2_with fail
  go_loopw [11, 12, 13, 14] (fun v1 v2 v i wr => ∃ (q a : Nat) (ps : List Nat), q ≤ N ∧ ps.length = q ∧ a ≤ T ∧ v = .int .i64 a ∧ i = .int .i64 q ∧ Hid (cenS l T N F [] = cenS l T (N - q) a ps ∧ CW w wr v1 v2 q (recP l ps) (placeV ps))) (fun _ _ _ i _ => N - (intOf i).toNat)
  case atStart => exact ⟨0, F, [], Nat.zero_le _, rfl, hF, rfl, rfl, Lib.hid ⟨rfl, Below.refl _ _, World.ownsRow_nil _ _ _ _, World.ownsRow_nil _ _ _ _⟩⟩
  case round =>
    obtain ⟨q, a, ps, hq, hps, ha, rfl, rfl, HI⟩ := hrel
    by_cases hlt : q < N
    · obtain ⟨M, hM⟩ : ∃ M, N - q = M + 1 := ⟨N - q - 1, by omega⟩
      have hstep : cenS l T (M + 1) a ps = if recS l T a (ps.map (nmU l)) ≠ 0 then .error (recS l T a (ps.map (nmU l))) else cenS l T M (a + szL l a) (ps ++ [a]) := rfl
      have hC : cenS l T N F [] = if recS l T a (ps.map (nmU l)) ≠ 0 then .error (recS l T a (ps.map (nmU l))) else cenS l T M (a + szL l a) (ps ++ [a]) := by rw [HI.out.1, hM, hstep]
      have HC := Lib.hid (And.intro hC hM)
      have HW := Lib.hid HI.out.2
      clear hstep hC hM HI
      have hn2 : ∀ q : Int, ∃ n2 : Nat, numL l ((a : Int) + q) 2 = n2 ∧ n2 ≤ 65535 := fun q => by
        have h2 := numL_bd2 hB ((a : Int) + q)
        exact ⟨_, (Int.toNat_of_nonneg h2.1).symm, by omega⟩
      have hn4 : ∀ q : Int, ∃ n2 : Nat, numL l ((a : Int) + q) 4 = n2 ∧ n2 ≤ 4294967295 := fun q => by
        have h2 := numL_bd hB ((a : Int) + q) 4 (by decide)
        exact ⟨_, (Int.toNat_of_nonneg h2.1).symm, by omega⟩
      obtain ⟨n28, e28, b28⟩ := hn2 28
      obtain ⟨n30, e30, b30⟩ := hn2 30
      obtain ⟨n32, e32, b32⟩ := hn2 32
      obtain ⟨n34, e34, _⟩ := hn2 34
      obtain ⟨n6, e6, _⟩ := hn2 6
      obtain ⟨n8, e8, b8⟩ := hn2 8
      obtain ⟨n10, e10, _⟩ := hn2 10
      obtain ⟨n16, e16, _⟩ := hn4 16
      obtain ⟨n20, e20, _⟩ := hn4 20
      obtain ⟨n24, e24, _⟩ := hn4 24
      obtain ⟨n42, e42, _⟩ := hn4 42
      clear hn2 hn4
      have hsz : szL l a = 46 + n28 + n30 + n32 := by unfold szL nmN; rw [e28, e30, e32]; rfl
      have hnm : nmN l a = n28 := by unfold nmN; rw [e28]; rfl
      have hR : recS l T a (ps.map (nmU l)) = if T < a + 46 ∨ kindL l a ≠ 2 then 11 else if T < a + (46 + n28 + n30 + n32) ∨ (n34 : Int) ≠ 0 then 11
          else if (n6 : Int) > 20 ∨ flagB n8 = false ∨ ((n10 : Int) ≠ 0 ∧ (n10 : Int) ≠ 8) then 12 else if nameB (nmT l a) = false then 13 else if nmU l a ∈ ps.map (nmU l) then 14 else 0 := by
        unfold recS
        rw [hsz, e34, e6, e8, e10]
      have HR := Lib.hid hR
      have HS := Lib.hid (And.intro hsz hnm)
      have HE := Lib.hid (And.intro e10 (And.intro e16 (And.intro e20 (And.intro e24 e42))))
      have bs := fun {wk : World} {u1 u2 : Value} (h : CW w wk u1 u2 q (recP l ps) (placeV ps)) => (HB.out.next h.low : Bs wk wk.heap.size b l)
      have n2 := fun (wk : World) (u1 u2 : Value) (h : CW w wk u1 u2 q (recP l ps) (placeV ps)) (z : Int) (hz : 0 ≤ z ∧ z ≤ 42) => refNum (w := wk) hc hm (bs h) ((a : Int) + z) 2 (by omega) (by decide)
      have n4 := fun (wk : World) (u1 u2 : Value) (h : CW w wk u1 u2 q (recP l ps) (placeV ps)) (z : Int) (hz : 0 ≤ z ∧ z ≤ 42) => refNum (w := wk) hc hm (bs h) ((a : Int) + z) 4 (by omega) (by decide)
      have hks : a + 4 ≤ l.length → Calls Tryz.prog 54 #[.slice b l.length c, .int .i64 a, .int .u8 1, .int .u8 2] wr fun e w' => e = .returned (.bool (kindL l a == 2)) ∧ w' = wr := fun h => by rw [← sgB_2]; exact refSign hm (bs HW.out) a h 1 2
      have HN := Lib.hid (And.intro @bs (And.intro n2 n4))
      clear hR hsz hnm bs n2 n4
      by_cases h1 : T < a + 46
      · have t1 : decide ((T : Int) - a < 46) = true := by simp; omega
        have hP : recS l T a (ps.map (nmU l)) = 11 := by rw [HR.out, if_pos (.inl h1)]
        have HP := Lib.hid hP
        clear hP h1 hks
        go_wp2_with fail
        go_ret3
        exact .inl ⟨11, by rw [HC.out.1, if_pos (by rw [HP.out]; decide), HP.out], by decide, rfl, HW.out.low⟩
      · have t1 : decide ((T : Int) - a < 46) = false := by simp; omega
        have hk := hks (by omega)
        clear hks
        obtain ⟨K, hK⟩ : ∃ K, kindL l a = K := ⟨_, rfl⟩
        rw [hK] at hk
        have HK := Lib.hid hK
        clear hK
        by_cases h2 : K = 2
        rotate_left
        · have t2 : (K == 2) = false := by simp [h2]
          rw [t2] at hk
          have hP : recS l T a (ps.map (nmU l)) = 11 := by rw [HR.out, HK.out, if_pos (.inr h2)]
          have HP := Lib.hid hP
          clear hP h1 h2 t2
          go_wp2_with fail
          refine hk.mono ?_
          rintro e w1 ⟨rfl, rfl⟩
          clear hk
          go_wp2_with fail
          go_ret3
          exact .inl ⟨11, by rw [HC.out.1, if_pos (by rw [HP.out]; decide), HP.out], by decide, rfl, HW.out.low⟩
        · have t2 : (K == 2) = true := by simp [h2]
          rw [t2] at hk
          have HR2 : Hid (recS l T a (ps.map (nmU l)) = if T < a + (46 + n28 + n30 + n32) ∨ (n34 : Int) ≠ 0 then 11
              else if (n6 : Int) > 20 ∨ flagB n8 = false ∨ ((n10 : Int) ≠ 0 ∧ (n10 : Int) ≠ 8) then 12 else if nameB (nmT l a) = false then 13 else if nmU l a ∈ ps.map (nmU l) then 14 else 0) := Lib.hid (by rw [HR.out, if_neg (by rw [HK.out]; omega)])
          clear HR h2 t2
          go_wp2_with fail
          refine hk.mono ?_
          rintro e w1 ⟨rfl, rfl⟩
          clear hk
          have q28 := HN.out.2.1 _ _ _ HW.out 28 (by decide)
          rw [e28] at q28
          go_wp2_with fail
          refine q28.mono ?_
          rintro e w2 ⟨rfl, hb2⟩
          have HW2 := Lib.hid (HW.out.below hb2)
          clear q28 hb2 HW
          have q30 := HN.out.2.1 _ _ _ HW2.out 30 (by decide)
          rw [e30] at q30
          go_wp2_with fail
          refine q30.mono ?_
          rintro e w3 ⟨rfl, hb3⟩
          have HW3 := Lib.hid (HW2.out.below hb3)
          clear q30 hb3 HW2
          have q32 := HN.out.2.1 _ _ _ HW3.out 32 (by decide)
          rw [e32] at q32
          go_wp2_with fail
          refine q32.mono ?_
          rintro e w4 ⟨rfl, hb4⟩
          have HW4 := Lib.hid (HW3.out.below hb4)
          clear q32 hb4 HW3 t1
          by_cases h3 : T < a + (46 + n28 + n30 + n32)
          · have t3 : decide ((46 : Int) + n28 + n30 + n32 > (T : Int) - a) = true := by simp; omega
            have hP : recS l T a (ps.map (nmU l)) = 11 := by rw [HR2.out, if_pos (.inl h3)]
            have HP := Lib.hid hP
            clear hP h1 h3
            go_wp2_with fail
            go_ret3
            exact .inl ⟨11, by rw [HC.out.1, if_pos (by rw [HP.out]; decide), HP.out], by decide, rfl, HW4.out.low⟩
          · have t3 : decide ((46 : Int) + n28 + n30 + n32 > (T : Int) - a) = false := by simp; omega
            have q34 := HN.out.2.1 _ _ _ HW4.out 34 (by decide)
            rw [e34] at q34
            by_cases h4 : n34 = 0
            rotate_left
            · have t4 : ((n34 : Int) != 0) = true := by simp; omega
              have hP : recS l T a (ps.map (nmU l)) = 11 := by rw [HR2.out, if_pos (.inr (by omega))]
              have HP := Lib.hid hP
              clear hP h1 h3 h4
              go_wp2_with fail
              refine q34.mono ?_
              rintro e w5 ⟨rfl, hb5⟩
              have HW5 := Lib.hid (HW4.out.below hb5)
              clear q34 hb5
              go_wp2_with fail
              go_ret3
              exact .inl ⟨11, by rw [HC.out.1, if_pos (by rw [HP.out]; decide), HP.out], by decide, rfl, HW5.out.low⟩
            · have t4 : ((n34 : Int) != 0) = false := by simp [h4]
              have HR3 : Hid (recS l T a (ps.map (nmU l)) = if (n6 : Int) > 20 ∨ flagB n8 = false ∨ ((n10 : Int) ≠ 0 ∧ (n10 : Int) ≠ 8) then 12 else if nameB (nmT l a) = false then 13 else if nmU l a ∈ ps.map (nmU l) then 14 else 0) := Lib.hid (by rw [HR2.out, if_neg (by omega)])
              have HT := Lib.hid (And.intro h1 h3)
              clear HR2 h4 h1 h3
              go_wp2_with fail
              refine q34.mono ?_
              rintro e w5 ⟨rfl, hb5⟩
              have HW5 := Lib.hid (HW4.out.below hb5)
              clear q34 hb5 HW4
              have q10 := HN.out.2.1 _ _ _ HW5.out 10 (by decide)
              rw [e10] at q10
              go_wp2_with fail
              refine q10.mono ?_
              rintro e w6 ⟨rfl, hb6⟩
              have HW6 := Lib.hid (HW5.out.below hb6)
              clear q10 hb6 HW5
              have q8 := HN.out.2.1 _ _ _ HW6.out 8 (by decide)
              rw [e8] at q8
              go_wp2_with fail
              refine q8.mono ?_
              rintro e w7 ⟨rfl, hb7⟩
              have HW7 := Lib.hid (HW6.out.below hb7)
              clear q8 hb7 HW6 t3 t4
              go_wp2_with fail
              have hnl := heap_alloc_new w7 (.cells #[.int .i64 2, .int .i64 4, .int .i64 2048] 3)
              have hwl : CW w (w7.alloc (.cells #[.int .i64 2, .int .i64 4, .int .i64 2048] 3)) u11 u12 q (recP l ps) (placeV ps) := HW7.out.below ((Below.refl _ _).alloc (Nat.le_refl _) _)
              have k0 : (w7.alloc (.cells #[.int .i64 2, .int .i64 4, .int .i64 2048] 3)).cell? ⟨w7.heap.size, 0, none⟩ = some (.int .i64 2) := by rw [blk_cell hnl]; rfl
              have k1 : (w7.alloc (.cells #[.int .i64 2, .int .i64 4, .int .i64 2048] 3)).cell? ⟨w7.heap.size, 1, none⟩ = some (.int .i64 4) := by rw [blk_cell hnl]; rfl
              have k2 : (w7.alloc (.cells #[.int .i64 2, .int .i64 4, .int .i64 2048] 3)).cell? ⟨w7.heap.size, 2, none⟩ = some (.int .i64 2048) := by rw [blk_cell hnl]; rfl
              generalize w7.alloc (.cells #[.int .i64 2, .int .i64 4, .int .i64 2048] 3) = wl at *
              have HWl := Lib.hid hwl
              clear hnl hwl HW7
              have hb8 := flS_le n8
              go_loopw [18, 77] (fun o i wr => ∃ j : Nat, j ≤ 3 ∧ i = .int .i64 j ∧ o = .int .i64 (flS n8 j : Nat) ∧ wr = wl) (fun _ i _ => 3 - (intOf i).toNat)
              case atStart => exact ⟨0, by decide, rfl, rfl, rfl⟩
              case round =>
                obtain ⟨j, hj, rfl, rfl, rfl⟩ := hrel
                match j, hj with
                | 0, _ =>
                  obtain ⟨f0, hf0⟩ : ∃ f0, flS n8 0 = f0 := ⟨_, rfl⟩
                  obtain ⟨f1, hf1⟩ : ∃ f1, flS n8 1 = f1 := ⟨_, rfl⟩
                  have hst : f1 = if f0 / 2 % 2 = 1 then f0 - 2 else f0 := by rw [← hf0, ← hf1]; rfl
                  have hf0b : f0 ≤ 65535 := by have := hb8 0; omega
                  have htq := tq_form f0 2
                  rw [hf0]
                  have HF1 := Lib.hid (And.intro hf1 hst)
                  clear hf0 hf1 hst
                  by_cases hq2 : f0 / 2 % 2 = 1
                  · have hge : 2 ≤ f0 := by omega
                    have t1 : (((f0 : Int) / (2 : Int)) % 2 == 1) = true := htq.trans (decide_eq_true hq2)
                    have HQ := Lib.hid hq2
                    clear htq hq2
                    go_wp2_with fail
                    go_roundw
                    case rel => exact ⟨1, by decide, rfl, by rw [HF1.out.1, HF1.out.2, if_pos HQ.out]; congr 1; omega, by first | trivial | rfl⟩
                    case measure => decide
                  · have t1 : (((f0 : Int) / (2 : Int)) % 2 == 1) = false := htq.trans (decide_eq_false hq2)
                    have HQ := Lib.hid hq2
                    clear htq hq2
                    go_wp2_with fail
                    go_roundw
                    case rel => exact ⟨1, by decide, rfl, by rw [HF1.out.1, HF1.out.2, if_neg HQ.out], by first | trivial | rfl⟩
                    case measure => decide
                | 1, _ =>
                  obtain ⟨f0, hf0⟩ : ∃ f0, flS n8 1 = f0 := ⟨_, rfl⟩
                  obtain ⟨f1, hf1⟩ : ∃ f1, flS n8 2 = f1 := ⟨_, rfl⟩
                  have hst : f1 = if f0 / 4 % 2 = 1 then f0 - 4 else f0 := by rw [← hf0, ← hf1]; rfl
                  have hf0b : f0 ≤ 65535 := by have := hb8 1; omega
                  have htq := tq_form f0 4
                  rw [hf0]
                  have HF1 := Lib.hid (And.intro hf1 hst)
                  clear hf0 hf1 hst
                  by_cases hq2 : f0 / 4 % 2 = 1
                  · have hge : 4 ≤ f0 := by omega
                    have t1 : (((f0 : Int) / (4 : Int)) % 2 == 1) = true := htq.trans (decide_eq_true hq2)
                    have HQ := Lib.hid hq2
                    clear htq hq2
                    go_wp2_with fail
                    go_roundw
                    case rel => exact ⟨2, by decide, rfl, by rw [HF1.out.1, HF1.out.2, if_pos HQ.out]; congr 1; omega, by first | trivial | rfl⟩
                    case measure => decide
                  · have t1 : (((f0 : Int) / (4 : Int)) % 2 == 1) = false := htq.trans (decide_eq_false hq2)
                    have HQ := Lib.hid hq2
                    clear htq hq2
                    go_wp2_with fail
                    go_roundw
                    case rel => exact ⟨2, by decide, rfl, by rw [HF1.out.1, HF1.out.2, if_neg HQ.out], by first | trivial | rfl⟩
                    case measure => decide
                | 2, _ =>
                  obtain ⟨f0, hf0⟩ : ∃ f0, flS n8 2 = f0 := ⟨_, rfl⟩
                  obtain ⟨f1, hf1⟩ : ∃ f1, flS n8 3 = f1 := ⟨_, rfl⟩
                  have hst : f1 = if f0 / 2048 % 2 = 1 then f0 - 2048 else f0 := by rw [← hf0, ← hf1]; rfl
                  have hf0b : f0 ≤ 65535 := by have := hb8 2; omega
                  have htq := tq_form f0 2048
                  rw [hf0]
                  have HF1 := Lib.hid (And.intro hf1 hst)
                  clear hf0 hf1 hst
                  by_cases hq2 : f0 / 2048 % 2 = 1
                  · have hge : 2048 ≤ f0 := by omega
                    have t1 : (((f0 : Int) / (2048 : Int)) % 2 == 1) = true := htq.trans (decide_eq_true hq2)
                    have HQ := Lib.hid hq2
                    clear htq hq2
                    go_wp2_with fail
                    go_roundw
                    case rel => exact ⟨3, by decide, rfl, by rw [HF1.out.1, HF1.out.2, if_pos HQ.out]; congr 1; omega, by first | trivial | rfl⟩
                    case measure => decide
                  · have t1 : (((f0 : Int) / (2048 : Int)) % 2 == 1) = false := htq.trans (decide_eq_false hq2)
                    have HQ := Lib.hid hq2
                    clear htq hq2
                    go_wp2_with fail
                    go_roundw
                    case rel => exact ⟨3, by decide, rfl, by rw [HF1.out.1, HF1.out.2, if_neg HQ.out], by first | trivial | rfl⟩
                    case measure => decide
                | 3, _ =>
                  have hfn : flS n8 3 = flN n8 := rfl
                  rw [hfn]
                  have hfl := flagB_is n8 (by omega)
                  have q6 := HN.out.2.1 _ _ _ HWl.out 6 (by decide)
                  rw [e6] at q6
                  have hfl2 : flN n8 ≤ 65535 := by have := flS_le n8 3; rw [hfn] at this; omega
                  have HFL := Lib.hid (And.intro hfl hfn)
                  clear hfl hfn k0 k1 k2 hb8
                  generalize flN n8 = o8 at *
                  go_wp2_with fail
                  refine q6.mono ?_
                  rintro e w8 ⟨rfl, hb8⟩
                  have HW8 := Lib.hid (HWl.out.below hb8)
                  clear q6 hb8 HWl
                  by_cases h5 : n6 > 20
                  · have t5 : decide ((n6 : Int) > 20) = true := by simp; omega
                    have hP : recS l T a (ps.map (nmU l)) = 12 := by rw [HR3.out, if_pos (.inl (by omega))]
                    have HP := Lib.hid hP
                    clear hP h5
                    go_wp2_with fail
                    go_ret3
                    exact .inl ⟨12, by rw [HC.out.1, if_pos (by rw [HP.out]; decide), HP.out], by decide, rfl, HW8.out.low⟩
                  · have t5 : decide ((n6 : Int) > 20) = false := by simp; omega
                    by_cases h6 : o8 = 0
                    rotate_left
                    · have t6 : ((o8 : Int) != 0) = true := by simp; omega
                      have hP : recS l T a (ps.map (nmU l)) = 12 := by rw [HR3.out, if_pos (.inr (.inl (by rw [HFL.out.1]; simpa using h6)))]
                      have HP := Lib.hid hP
                      clear hP h5 h6
                      go_wp2_with fail
                      go_ret3
                      exact .inl ⟨12, by rw [HC.out.1, if_pos (by rw [HP.out]; decide), HP.out], by decide, rfl, HW8.out.low⟩
                    · have t6 : ((o8 : Int) != 0) = false := by simp [h6]
                      by_cases h7 : n10 ≠ 0 ∧ n10 ≠ 8
                      · have t7 : ((n10 : Int) != 0) = true := by simp; omega
                        have t8 : ((n10 : Int) != 8) = true := by simp; omega
                        have hP : recS l T a (ps.map (nmU l)) = 12 := by rw [HR3.out, if_pos (.inr (.inr (by omega)))]
                        have HP := Lib.hid hP
                        clear hP h5 h6 h7
                        go_wp2_with fail
                        go_ret3
                        exact .inl ⟨12, by rw [HC.out.1, if_pos (by rw [HP.out]; decide), HP.out], by decide, rfl, HW8.out.low⟩
                      · have t78 : ((n10 : Int) != 0 && (n10 : Int) != 8) = false := by
                          rw [Bool.and_eq_false_iff]; simp; omega
                        have HR4 : Hid (recS l T a (ps.map (nmU l)) = keepE (nmT l a) (ps.map (nmU l))) := Lib.hid (by
                          rw [HR3.out, if_neg (by rintro (z | z | z); omega; rw [HFL.out.1, h6] at z; exact absurd z (by decide); omega)]; rfl)
                        have hcase : ((n10 : Int) != 0) = false ∨ (((n10 : Int) != 0) = true ∧ ((n10 : Int) != 8) = false) := by
                          revert t78; cases ((n10 : Int) != 0) <;> cases ((n10 : Int) != 8) <;> simp
                        have hTT : a + (46 + n28 + n30 + n32) ≤ T := by have := HT.out; omega
                        clear HR3 h5 h6 h7 t78
                        -- the name
                        have hbd : Bs w8 w8.heap.size b l := HN.out.1 HW8.out
                        have hnn : b = none → l.length = 0 ∧ c = 0 := fun e => by
                          obtain ⟨_, hcs⟩ := hbd
                          obtain ⟨b', off, e2, _⟩ := hcs (by omega)
                          rw [e] at e2; cases e2
                        obtain ⟨a4, c4, _, r4, b4s, hc4, _, hn4⟩ := cut_lh b l.length c l rfl hc hnn (a + 46) (a + 46 + n28) (by omega) (by omega)
                        rw [show ((a + 46 : Nat) : Int) = (a : Int) + 46 by omega, show ((a + 46 + n28 : Nat) : Int) = (a : Int) + 46 + n28 by omega, show a + 46 + n28 - (a + 46) = n28 by omega] at r4
                        have hcv : (convert 22 9 (.slice a4 n28 c4)).run Tryz.prog w8 = .ok (.string (nmT l a)) w8 := by
                          have := conv_bs (n := n28) c4 (b4s _ _ hbd) (by rw [cutOf_len (by omega)]; omega)
                          unfold nmT
                          rw [HS.out.2]; exact this
                        have hname := refName_is (nmT l a) w8
                        obtain ⟨aV, cV, hV⟩ := own_shape HW8.out.r1
                        subst hV
                        have HTT := Lib.hid hTT
                        clear hbd hnn b4s hn4 hTT HT
                        rcases hcase with t7 | ⟨t7, t8⟩
                        all_goals
                          go_wp2_with fail
                          refine hname.mono ?_
                          rintro e w9 ⟨rfl, rfl⟩
                          clear hname hcv r4 t5 t6 t7
                          obtain ⟨Bn, hBn⟩ : ∃ Bn, nameB (nmT l a) = Bn := ⟨_, rfl⟩
                          rw [hBn]
                          have HBn := Lib.hid hBn
                          clear hBn
                          cases Bn with
                          | false =>
                            have hP : recS l T a (ps.map (nmU l)) = 13 := by rw [HR4.out]; unfold keepE; rw [if_pos HBn.out]
                            have HP := Lib.hid hP
                            clear hP
                            go_wp2_with fail
                            go_ret3
                            exact .inl ⟨13, by rw [HC.out.1, if_pos (by rw [HP.out]; decide), HP.out], by decide, rfl, HW8.out.low⟩
                          | true =>
                            go_wp2_with fail
                            go_loopw [22] (fun i wr => ∃ k : Nat, k ≤ q ∧ i = .int .i64 k ∧ wr = w9 ∧ Hid (∀ (j : Nat) p, j < k → ps[j]? = some p → nmU l p ≠ nmU l a)) (fun i _ => q - (intOf i).toNat)
                            case atStart => exact ⟨0, Nat.zero_le _, rfl, rfl, Lib.hid (fun j p hj => absurd hj (Nat.not_lt_zero j))⟩
                            case round =>
                              obtain ⟨k, hk, rfl, rfl, HI⟩ := hrel
                              by_cases hlt2 : k < q
                              · obtain ⟨p, hp⟩ : ∃ p, ps[k]? = some p := ⟨_, List.getElem?_eq_getElem (by omega)⟩
                                obtain ⟨G, cp, hV, _, _⟩ := HW8.out.r1.form (by omega)
                                injection hV with hV1 _ hV2
                                subst hV1
                                subst hV2
                                have kx : wr.cell? ⟨G, k * 7, none⟩ = some (.string (nmT l p)) := by
                                  have h := HW8.out.r1.cellAt (k * 7) (by omega)
                                  rw [h]
                                  have := recP_at (l := l) (j := 0) hp (by decide)
                                  rw [Nat.add_zero] at this
                                  rw [this]; rfl
                                have HP := Lib.hid hp
                                clear hp
                                by_cases hs : (nmT l p).toList = (nmT l a).toList
                                · have t4 : ((nmT l p).toList == (nmT l a).toList) = true := by rw [hs]; exact beq_self_eq_true _
                                  have hP : recS l T a (ps.map (nmU l)) = 14 := by
                                    rw [HR4.out]; unfold keepE; rw [if_neg (by rw [HBn.out]; decide), if_pos]
                                    refine List.mem_map.2 ⟨p, List.mem_of_getElem? HP.out, ?_⟩
                                    rw [Lib.toList_data, Lib.toList_data] at hs
                                    exact hs
                                  have HQ := Lib.hid hP
                                  clear hP hs
                                  go_wp2_with fail
                                  go_ret3
                                  exact .inl ⟨14, by rw [HC.out.1, if_pos (by rw [HQ.out]; decide), HQ.out], by decide, rfl, HW8.out.low⟩
                                · have t4 : ((nmT l p).toList == (nmT l a).toList) = false := by rw [beq_eq_false_iff_ne]; exact hs
                                  have hI2 : ∀ (j : Nat) p, j < k + 1 → ps[j]? = some p → nmU l p ≠ nmU l a := fun j p' hj hp' => by
                                    rcases Nat.lt_or_ge j k with z | z
                                    · exact HI.out j p' z hp'
                                    · obtain rfl : j = k := by omega
                                      rw [HP.out] at hp'
                                      injection hp' with hp'
                                      subst hp'
                                      intro e
                                      refine hs ?_
                                      rw [Lib.toList_data, Lib.toList_data]
                                      exact e
                                  have HI2 := Lib.hid hI2
                                  clear hI2 hs HI
                                  go_wp2_with fail
                                  go_roundw
                                  case rel => exact ⟨k + 1, by omega, by go_num, by first | trivial | rfl, HI2⟩
                                  case measure => simp [intOf]; omega
                              · obtain rfl : q = k := by omega
                                have hP : recS l T a (ps.map (nmU l)) = 0 := by
                                  rw [HR4.out]; unfold keepE; rw [if_neg (by rw [HBn.out]; decide), if_neg]
                                  intro hin
                                  obtain ⟨p, hp, e⟩ := List.mem_map.1 hin
                                  obtain ⟨j, hj⟩ := List.getElem?_of_mem hp
                                  exact HI.out j p (by have := (List.getElem?_eq_some_iff.1 hj).1; omega) hj e
                                have HP := Lib.hid hP
                                have q16 := HN.out.2.2 _ _ _ HW8.out 16 (by decide)
                                rw [e16] at q16
                                clear hP HI
                                go_wp2_with fail
                                refine q16.mono ?_
                                rintro e w10 ⟨rfl, hb10⟩
                                have HW10 := Lib.hid (HW8.out.below hb10)
                                clear q16 hb10 HW8
                                have q20 := HN.out.2.2 _ _ _ HW10.out 20 (by decide)
                                rw [e20] at q20
                                go_wp2_with fail
                                refine q20.mono ?_
                                rintro e w11 ⟨rfl, hb11⟩
                                have HW11 := Lib.hid (HW10.out.below hb11)
                                clear q20 hb11 HW10
                                have q24 := HN.out.2.2 _ _ _ HW11.out 24 (by decide)
                                rw [e24] at q24
                                go_wp2_with fail
                                refine q24.mono ?_
                                rintro e w12 ⟨rfl, hb12⟩
                                have HW12 := Lib.hid (HW11.out.below hb12)
                                clear q24 hb12 HW11
                                have q42 := HN.out.2.2 _ _ _ HW12.out 42 (by decide)
                                rw [e42] at q42
                                go_wp2_with fail
                                refine q42.mono ?_
                                rintro e w13 ⟨rfl, hb13⟩
                                have HW13 := Lib.hid (HW12.out.below hb13)
                                clear q42 hb13 HW12
                                have hrc : recC l (a, 0) = [.string (nmT l a), .int .i64 n10, .int .i64 n20, .int .i64 n24, .int .i64 n16, .int .i64 0, .int .i64 n42] := by
                                  unfold recC pkL hdL
                                  obtain ⟨p10, p16, p20, p24, p42⟩ := HE.out
                                  simp only [p10, p16, p20, p24, p42, Int.toNat_natCast]
                                  rfl
                                have hr1 := recC_one l (a, 0)
                                rw [hrc] at hr1
                                have HRC := Lib.hid hrc
                                obtain ⟨i0, hi, hz0, hz1, hz2⟩ := info_parts int_info
                                have hown : ∀ o, (w13.alloc o).ownsRow w.heap.size 44 7 (.slice aV q cV) q (recP l ps) ∧ w.heap.size ≤ (w13.alloc o).heap.size := fun o => ⟨HW13.out.r1.alloc o, Nat.le_trans HW13.out.low.size (by simp)⟩
                                have hnx : ∀ (o : Obj) (v' : Value) (w14 : World), w14.ownsRow w.heap.size 44 7 v' (q + 1) (recP l ps ++ [.string (nmT l a), .int .i64 n10, .int .i64 n20, .int .i64 n24, .int .i64 n16, .int .i64 0, .int .i64 n42]) → (w13.alloc o).grownBy w14 (Value.slice aV q cV).ownBlock →
                                    Hid (Below w.heap.size w w14 ∧ w14.ownsRow w.heap.size 44 7 v' (q + 1) (recP l (ps ++ [a])) ∧ w14.ownsRow w.heap.size 3 1 u12 q (placeV ps)) ∧ (∀ o2, (w14.alloc o2).ownsRow w.heap.size 3 1 u12 q (placeV ps)) ∧ (∀ o2, w.heap.size ≤ (w14.alloc o2).heap.size) := fun o v' w14 h1 h2 => by
                                  have hbl := grown_below HW13.out.low HW13.out.low.size HW13.out.r1 h2
                                  have hne := own_apart (HW13.out.r1.alloc o) (HW13.out.r2.alloc o) (by decide)
                                  have hk2 := (HW13.out.r2.alloc o).kept h2 hne
                                  refine ⟨Lib.hid ⟨hbl, ?_, hk2⟩, fun o2 => hk2.alloc o2, fun o2 => Nat.le_trans hbl.size (by simp)⟩
                                  unfold recP at h1 ⊢
                                  rw [List.flatMap_append]
                                  simp only [List.flatMap_cons, List.flatMap_nil, List.append_nil]
                                  rw [HRC.out]; exact h1
                                clear hrc e16 e20 e24 e42
                                go_wp2_with (first | (refine wpList_val rfl (y_bldR rfl rfl rfl rfl rfl rfl rfl) ?_) | (refine wpList_val rfl (y_buildR rfl rfl rfl) ?_) | (at_builtin; refine rec_app rfl _ _ rfl w.heap.size _ q (recP l ps) rfl (hown _).1 w13.heap.size [.string (nmT l a), .int .i64 n10, .int .i64 n20, .int .i64 n24, .int .i64 n16, .int .i64 0, .int .i64 n42] rfl rfl (heap_alloc_new _ _) hr1 (by omega) (hown _).2 ?_; intro v' w14 ho14 hg14 _; obtain ⟨HX, ho2, hs2⟩ := hnx _ v' w14 ho14 hg14; clear ho14 hg14) | (at_builtin; refine wpList_append_own _ rfl _ _ 83 rfl w.heap.size 3 i0 (.int .i64 0) 1 8 Tryz.underlying83 hi hz0 hz1 hz2 rfl (by decide) u12 q (placeV ps) rfl (ho2 _) ⟨w14.heap.size, 0, none⟩ 1 1 [.int .i64 (a : Int)] rfl rfl (one_new _ _ _) (by simp [Value.oneCell']) (by unfold maxLen; omega) (by omega) (hs2 _) ?_; intro v2 w15 ho15 hg15 _; have HZ := cw_app HX.out ho15 hg15; clear ho15 hg15 ho2 hs2))
                                go_roundw
                                case rel =>
                                  refine ⟨q + 1, a + (46 + n28 + n30 + n32), ps ++ [a], by omega, by simp [hps], HTT.out, by go_num, by go_num, Lib.hid ⟨?_, ?_⟩⟩
                                  · rw [HC.out.1, if_neg (by rw [HP.out]; simp), HS.out.1, show N - (q + 1) = M by have := HC.out.2; omega]
                                  · have hz := HZ.out
                                    unfold placeV at hz ⊢
                                    rw [List.map_append]; exact hz
                                case measure => simp [intOf]; omega
                | n + 4, h => exact absurd h (by omega)
    · obtain rfl : N = q := by omega
      have hend : cenS l T N F [] = if a < T then .error 11 else .ok ps := by rw [HI.out.1, Nat.sub_self]; rfl
      have HE := Lib.hid hend
      have HW := Lib.hid HI.out.2
      clear hend HI
      by_cases h1 : a < T
      · have t1 : ((a : Int) != (T : Int)) = true := by simp; omega
        go_wp2_with fail
        go_ret3
        exact .inl ⟨11, by rw [HE.out, if_pos h1], by decide, rfl, HW.out.low⟩
      · obtain rfl : T = a := by omega
        go_wp2_with fail
        go_ret3
        exact .inr ⟨ps, _, _, by rw [HE.out, if_neg h1], rfl, by rw [hps]; exact HW.out⟩
end
end Go.Proofs.YtdcpibglbanchaaGreatDoor
