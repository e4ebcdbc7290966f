/- The document's own archive reader, first part: contracts of samovarref09's num, sign, End. Condition: the bytes are bytes. -/
import Derived.Test.YtimojfkpcmphfaaDoorDv
set_option linter.unusedVariables false
set_option maxRecDepth 100000
namespace Go.Proofs.YtimojfkpcmphfaaDoor
open Go.RowKit Go.Maps Go.ChangeMaps

theorem refNum {w : World} {b : Option Addr} {c : Nat} {l : List Int} (hc : l.length ≤ c) (hm : l.length ≤ 65536) (hb : Bs w w.heap.size b l) (p k : Int) (hp : -9223372036854775808 ≤ p ∧ p ≤ 9223372036854775807) (hk : -9223372036854775808 ≤ k ∧ k ≤ 9223372036854775807) :
    Calls Tryd.prog 22 #[.slice b l.length c, .int .i64 p, .int .i64 k] w fun e w' => e = .returned (.int .i64 (numL l p k)) ∧ Below w.heap.size w w' := by
  have hlt := O2.refLittle b c l p k hp hk hc (by omega) w hb
  clear hb
  unfold numL
  go_enter Tryd.func22, Tryd.ntmps22
  go_wp2_with fail
  refine hlt.mono ?_
  rintro e w' ⟨rfl, hb'⟩
  have HB := Lib.hid hb'
  clear hlt hb'
  go_wp2_with fail
  go_ret
  exact ⟨rfl, HB.out⟩
/-- do these four signs stand there? -/
def sgB (l : List Int) (p : Nat) (x y : Int) : Bool := l.getD p 0 == 80 && (l.getD (p + 1) 0 == 75 && (l.getD (p + 2) 0 == x && l.getD (p + 3) 0 == y))
theorem sgB_1 (l : List Int) (p : Nat) : sgB l p 3 4 = (kindL l p == 1) := by
  unfold sgB kindL sigF
  generalize l.getD p 0 = a
  generalize l.getD (p + 1) 0 = b
  generalize l.getD (p + 2) 0 = c
  generalize l.getD (p + 3) 0 = d
  by_cases h1 : a = 80 <;> by_cases h2 : b = 75 <;> by_cases h3 : c = 3 <;> by_cases h4 : d = 4 <;> by_cases h5 : c = 1 <;> by_cases h6 : d = 2 <;> by_cases h7 : c = 5 <;> by_cases h8 : d = 6 <;> simp [h1, h2, h3, h4, h5, h6, h7, h8] <;> omega
theorem sgB_2 (l : List Int) (p : Nat) : sgB l p 1 2 = (kindL l p == 2) := by
  unfold sgB kindL sigF
  generalize l.getD p 0 = a
  generalize l.getD (p + 1) 0 = b
  generalize l.getD (p + 2) 0 = c
  generalize l.getD (p + 3) 0 = d
  by_cases h1 : a = 80 <;> by_cases h2 : b = 75 <;> by_cases h3 : c = 3 <;> by_cases h4 : d = 4 <;> by_cases h5 : c = 1 <;> by_cases h6 : d = 2 <;> by_cases h7 : c = 5 <;> by_cases h8 : d = 6 <;> simp [h1, h2, h3, h4, h5, h6, h7, h8] <;> omega
theorem sgB_3 (l : List Int) (p : Nat) : sgB l p 5 6 = (kindL l p == 3) := by
  unfold sgB kindL sigF
  generalize l.getD p 0 = a
  generalize l.getD (p + 1) 0 = b
  generalize l.getD (p + 2) 0 = c
  generalize l.getD (p + 3) 0 = d
  by_cases h1 : a = 80 <;> by_cases h2 : b = 75 <;> by_cases h3 : c = 3 <;> by_cases h4 : d = 4 <;> by_cases h5 : c = 1 <;> by_cases h6 : d = 2 <;> by_cases h7 : c = 5 <;> by_cases h8 : d = 6 <;> simp [h1, h2, h3, h4, h5, h6, h7, h8] <;> omega
set_option maxHeartbeats 2000000 in
theorem refSign {w : World} {B : Nat} {b : Option Addr} {c : Nat} {l : List Int} (hm : l.length ≤ 65536) (hb : Bs w B b l) (p : Nat) (hp : p + 4 ≤ l.length) (x y : Int) :
    Calls Tryd.prog 28 #[.slice b l.length c, .int .i64 p, .int .u8 x, .int .u8 y] w fun e w' => e = .returned (.bool (sgB l p x y)) ∧ w' = w := by
  obtain ⟨bb, off, rfl, _, hcell⟩ := hb.2 (by omega)
  have k0 := hcell p (by omega)
  have k1 := hcell (p + 1) (by omega)
  have k2 := hcell (p + 2) (by omega)
  have k3 := hcell (p + 3) (by omega)
  unfold sgB
  generalize l.getD p 0 = a at *
  generalize l.getD (p + 1) 0 = b at *
  generalize l.getD (p + 2) 0 = d at *
  generalize l.getD (p + 3) 0 = e at *
  clear hcell hb
  cases h1 : a == 80 <;> cases h2 : b == 75 <;> cases h3 : d == x <;> cases h4 : e == y
  all_goals
    go_enter Tryd.func28, Tryd.ntmps28
    go_wp2_with fail
    go_ret
    exact ⟨rfl, rfl⟩
theorem epS_mono (l : List Int) {k n : Nat} (h : k ≤ n) : (epS l k).2 ≤ (epS l n).2 := by
  induction n with
  | zero => obtain rfl : k = 0 := by omega
            exact Nat.le_refl _
  | succ n ih =>
    rcases Nat.lt_or_ge k (n + 1) with q | q
    · have := ih (by omega)
      have h2 : (epS l n).2 ≤ (epS l (n + 1)).2 := by
        show _ ≤ (if endC l n then (n, (epS l n).2 + 1) else epS l n).2
        split
        · exact Nat.le_succ _
        · exact Nat.le_refl _
      omega
    · obtain rfl : k = n + 1 := by omega
      exact Nat.le_refl _
/-- where the only end record is; -1: there is none, or more than one -/
def endV (l : List Int) (k : Nat) : Int := if (epS l k).2 = 1 then (epS l k).1 else -1
def endP (l : List Int) : Int := endV l (l.length - 21)
theorem endV_0 {l : List Int} {k : Nat} (h : (epS l k).2 = 0) : endV l k = -1 := by unfold endV; rw [if_neg (by omega)]
theorem endV_1 {l : List Int} {k : Nat} (h : (epS l k).2 = 1) : endV l k = (epS l k).1 := by unfold endV; rw [if_pos h]
theorem endV_2 {l : List Int} {k : Nat} (h : ¬ (epS l k).2 = 1) : endV l k = -1 := by unfold endV; rw [if_neg h]
theorem endV_same {l : List Int} {k k' : Nat} (h : epS l k = epS l k') : endV l k = endV l k' := by unfold endV; rw [h]
set_option maxHeartbeats 4000000 in
theorem refEnd {w : World} {b : Option Addr} {c : Nat} {l : List Int} (hc : l.length ≤ c) (hm : l.length ≤ 65536) (hb : Bs w w.heap.size b l) :
    Calls Tryd.prog 13 #[.slice b l.length c] w fun e w' => e = .returned (.int .i64 (endP l)) ∧ Below w.heap.size w w' := by
  have HB := Lib.hid hb
  clear hb
  obtain ⟨M, hM⟩ : ∃ M : Nat, l.length - 21 = M := ⟨_, rfl⟩
  unfold endP
  rw [hM]
  have HM := Lib.hid hM
  clear hM
  go_enter Tryd.func13, Tryd.ntmps13
  go_wp2_with fail
  go_loopw [3, 4] (fun v i wr => ∃ q : Nat, q ≤ M ∧ i = .int .i64 q ∧ v = .int .i64 (endV l q) ∧ Hid ((epS l q).2 ≤ 1 ∧ Below w.heap.size w wr)) (fun _ i _ => M - (intOf i).toNat)
  case atStart => exact ⟨0, Nat.zero_le _, rfl, rfl, Lib.hid ⟨Nat.zero_le _, Below.refl _ _⟩⟩
  case round =>
    obtain ⟨q, hq, rfl, rfl, HI⟩ := hrel
    have hp1 := (epS_le l q).1
    obtain ⟨P, hP⟩ : ∃ P, (epS l q).1 = P := ⟨_, rfl⟩
    obtain ⟨N, hN⟩ : ∃ N, (epS l q).2 = N := ⟨_, rfl⟩
    obtain ⟨v0, hv0⟩ : ∃ v0, endV l q = v0 := ⟨_, rfl⟩
    have hN1 := HI.out.1
    have hv : (N = 0 ∧ v0 = -1) ∨ (N = 1 ∧ v0 = P) := by
      by_cases h : (epS l q).2 = 1
      · exact .inr ⟨by omega, by rw [← hv0, endV_1 h, hP]⟩
      · exact .inl ⟨by omega, by rw [← hv0, endV_2 h]⟩
    have hbr : Bs wr wr.heap.size b l := HB.out.next HI.out.2
    by_cases hlt : q < M
    · have hq22 : q + 22 ≤ l.length := by have := HM.out; omega
      have hsg := refSign (c := c) hm hbr q (by omega) 5 6
      have hnu := refNum (w := wr) hc hm hbr ((q : Int) + 20) 2 (by omega) (by decide)
      have hstep : epS l (q + 1) = if numL l ((q : Int) + 20) 2 = (l.length : Int) - 22 - q ∧ kindL l q = 3 then (q, (epS l q).2 + 1) else epS l q := rfl
      rw [sgB_3] at hsg
      have hmono := epS_mono l (show q + 1 ≤ M by omega)
      rw [hN] at hN1 hstep
      rw [hP] at hp1
      rw [hv0]
      have HS := Lib.hid (And.intro hstep (And.intro hP (And.intro hN (And.intro hmono hv0))))
      clear hstep hP hN hmono hbr hv0
      generalize numL l ((q : Int) + 20) 2 = N1 at *
      generalize kindL l q = K1 at *
      have hd1 : decide ((q : Int) + 22 ≤ (l.length : Int)) = true := by simp; omega
      by_cases e2 : K1 = 3
      · have t2 : (K1 == 3) = true := by simp [e2]
        rw [t2] at hsg
        by_cases e1 : N1 = (l.length : Int) - q - 22
        · have t1 : (N1 == (l.length : Int) - q - 22) = true := by simp [e1]
          have hS : epS l (q + 1) = (q, N + 1) := by rw [HS.out.1, if_pos ⟨by omega, e2⟩]
          have HS2 := Lib.hid hS
          clear hS e1 e2 t2
          go_wp2_with fail
          refine hsg.mono ?_
          rintro e w1 ⟨rfl, rfl⟩
          clear hsg
          go_wp2_with fail
          refine hnu.mono ?_
          rintro e w2 ⟨rfl, hb2⟩
          have H2 := Lib.hid (below_next HI.out.2 (Nat.le_refl _) hb2)
          clear hnu hb2
          rcases hv with ⟨rfl, rfl⟩ | ⟨rfl, rfl⟩
          rotate_left
          · have hE : endV l M = -1 := endV_2 (by have := HS.out.2.2.2.1; rw [HS2.out] at this; simp only at this; omega)
            have HE := Lib.hid hE
            clear hE
            go_wp2_with fail
            go_ret
            exact ⟨by rw [HE.out]; rfl, H2.out⟩
          · go_wp2_with fail
            go_roundw
            case rel => exact ⟨q + 1, by omega, by go_num, by rw [endV_1 (by rw [HS2.out]), HS2.out], Lib.hid ⟨by rw [HS2.out]; exact Nat.le_refl _, H2.out⟩⟩
            case measure => simp [intOf]; omega
        · have t1 : (N1 == (l.length : Int) - q - 22) = false := by simp [e1]
          have hS : epS l (q + 1) = epS l q := by rw [HS.out.1, if_neg (fun h => e1 (by omega))]
          have HS2 := Lib.hid hS
          clear hS e1 e2 t2
          go_wp2_with fail
          refine hsg.mono ?_
          rintro e w1 ⟨rfl, rfl⟩
          clear hsg
          go_wp2_with fail
          refine hnu.mono ?_
          rintro e w2 ⟨rfl, hb2⟩
          have H2 := Lib.hid (below_next HI.out.2 (Nat.le_refl _) hb2)
          clear hnu hb2
          go_wp2_with fail
          go_roundw
          case rel => exact ⟨q + 1, by omega, by go_num, by rw [endV_same HS2.out, HS.out.2.2.2.2], Lib.hid ⟨by rw [HS2.out]; exact HI.out.1, H2.out⟩⟩
          case measure => simp [intOf]; omega
      · have t2 : (K1 == 3) = false := by simp [e2]
        rw [t2] at hsg
        have hS : epS l (q + 1) = epS l q := by rw [HS.out.1, if_neg (fun h => e2 h.2)]
        have HS2 := Lib.hid hS
        clear hS e2 t2 hnu
        go_wp2_with fail
        refine hsg.mono ?_
        rintro e w1 ⟨rfl, rfl⟩
        clear hsg
        go_wp2_with fail
        go_roundw
        case rel => exact ⟨q + 1, by omega, by go_num, by rw [endV_same HS2.out, HS.out.2.2.2.2], Lib.hid ⟨by rw [HS2.out]; exact HI.out.1, HI.out.2⟩⟩
        case measure => simp [intOf]; omega
    · obtain rfl : M = q := by omega
      have hd1 : decide ((M : Int) + 22 ≤ (l.length : Int)) = false := by have := HM.out; simp; omega
      have hd2 : ¬ ((M : Int) + 22 ≤ (l.length : Int)) := by have := HM.out; omega
      have hMb : M ≤ 65536 := by have := HM.out; omega
      have H2 := Lib.hid HI.out.2
      rw [hv0]
      have HV := Lib.hid hv0
      clear hP hN hbr hv0 hv
      go_wp2_with fail
      go_ret
      exact ⟨by rw [HV.out]; rfl, H2.out⟩
end Go.Proofs.YtimojfkpcmphfaaDoor
