/- What the document's own reader of bits does: contracts of Left and Take (XBitR has these and the program's own). Condition: the numbers fit their kinds. -/
import Derived.Test.YtpnnfekfoomgaaaDoorLib
import Derived.Test.YtpnnfekfoomgaaaDoorBitM
import Derived.Test.YtpnnfekfoomgaaaDoorCut
import Derived.Deep.LoopGhost
set_option linter.unusedVariables false
set_option maxRecDepth 100000
namespace Go.Proofs.YtpnnfekfoomgaaaDoor
open Go.RowKit

theorem ret2 {a c b d : Int} {k k' : IntKind} (h1 : a = c) (h2 : b = d) : Ending.returned (.tuple #[.int k a, .int k' b]) = .returned (.tuple #[.int k c, .int k' d]) := by rw [h1, h2]
/-- block g, of the type T, is a reader of the bytes l at the bit p -/
def Rdr (T : TypeId) (w : World) (g : Nat) (l : List Int) (p : Nat) : Prop :=
  ∃ a c, w.heap[g]? = some (.cells #[.slice a l.length c, .int .i64 p] T (0, 0)) ∧ l.length ≤ c ∧ l.length ≤ 140737488355328 ∧ Bs w g a l ∧ p ≤ 8 * l.length ∧ (a = none → l.length = 0 ∧ c = 0)
theorem rdr_mk {T : TypeId} {w : World} {g : Nat} {l : List Int} {p' : Nat} {a : Option Addr} {c : Nat} {w' : World} (hh : w'.heap[g]? = some (.cells #[.slice a l.length c, .int .i64 p'] T (0, 0))) (hlc : l.length ≤ c) (hc : l.length ≤ 140737488355328) (hbs : Bs w g a l) (ha : a = none → l.length = 0 ∧ c = 0) (ho : Only g w w') (hg : g ≤ w.heap.size) (hp : p' ≤ 8 * l.length) : Rdr T w' g l p' :=
  ⟨a, c, hh, hlc, hc, hbs.below (only_below ho hg), hp, ha⟩
def okT (l : List Int) (p : Nat) (n : Int) : Bool := decide (0 ≤ n ∧ n ≤ 16 ∧ n ≤ 8 * l.length - p)
def errT (l : List Int) (p : Nat) (n : Int) : Int := if n < 0 ∨ 16 < n then 1 else if 8 * (l.length : Int) - p < n then 2 else 0
def valT (l : List Int) (p : Nat) (n : Int) : Int := if okT l p n then tk l p n.toNat else 0
def posT (l : List Int) (p : Nat) (n : Int) : Nat := if okT l p n then p + n.toNat else p
theorem t_arg {l : List Int} {p : Nat} {n : Int} (h : n < 0 ∨ 16 < n) : errT l p n = 1 ∧ valT l p n = 0 ∧ posT l p n = p := by
  have h1 : okT l p n = false := by unfold okT; simp; omega
  simp [errT, valT, posT, h1, h]
theorem t_short {l : List Int} {p : Nat} {n : Int} (h : 0 ≤ n ∧ n ≤ 16) (h2 : 8 * (l.length : Int) - p < n) : errT l p n = 2 ∧ valT l p n = 0 ∧ posT l p n = p := by
  have h1 : okT l p n = false := by unfold okT; simp; omega
  have h3 : ¬ (n < 0 ∨ 16 < n) := by omega
  simp [errT, valT, posT, h1, h3, h2]
theorem t_ok {l : List Int} {p m : Nat} (h : m ≤ 16) (h2 : p + m ≤ 8 * l.length) : errT l p m = 0 ∧ valT l p m = tk l p m ∧ posT l p m = p + m := by
  have h1 : okT l p m = true := by unfold okT; simp; omega
  have h3 : ¬ ((m : Int) < 0 ∨ 16 < (m : Int)) := by omega
  have h4 : ¬ (8 * (l.length : Int) - p < m) := by omega
  simp [errT, valT, posT, h1, h3, h4]
def isW (n : Int) : Bool := decide (0 ≤ n ∧ n ≤ 16)

theorem refLeft {w : World} {g : Nat} {l : List Int} {p : Nat} (h : Rdr 53 w g l p) :
    Calls Tryd.prog 39 #[.pointer (some ⟨g, 0, none⟩)] w fun e w' => e = .returned (.int .i64 (8 * (l.length : Int) - p)) ∧ ∃ n, w' = w.drewN n := by
  obtain ⟨a, c, hh, hlc, hc, _, hp, _⟩ := h
  have h0 : w.cell? ⟨g, 0, none⟩ = some (.slice a l.length c) := blk_cell hh 0
  have h2 : w.cell? ⟨g, 1, none⟩ = some (.int .i64 p) := blk_cell hh 1
  have h1 : IntKind.i64.wrap (8 * (l.length : Int)) = 8 * (l.length : Int) := IntWalk.i64_in _ (by omega)
  have hs : IntKind.i64.wrap (8 * (l.length : Int) - p) = 8 * (l.length : Int) - p := IntWalk.i64_in _ (by omega)
  clear hh
  go_enter Tryd.func39, Tryd.ntmps39
  go_wp2
  go_quiet (fail)
  go_wp2
  go_ret
  exact ⟨rfl, _, rfl⟩

theorem take_val (x T : Int) (m : Nat) (hm : m ≤ 16) (hx : 0 ≤ x ∧ x < 16777216) (h : x % 2 ^ m = T) : wrap64 (bits .and .u64 x (IntKind.u64.wrap (IntKind.u64.wrap (2 ^ m) - 1))) = T := by
  have h1 := pow_mono2 hm
  have e16 : (2 : Int) ^ 16 = 65536 := by decide
  have hp := pow_pos2 m
  have h2 : IntKind.u64.wrap (2 ^ m) = 2 ^ m := IntWalk.u64_in _ (by omega)
  have h3 : IntKind.u64.wrap ((2 : Int) ^ m - 1) = 2 ^ m - 1 := IntWalk.u64_in _ (by omega)
  rw [h2, h3, and_mask x m hm (by omega), h]
  have := Int.emod_lt_of_pos x hp
  have := Int.emod_nonneg x (b := (2 : Int) ^ m) (by omega)
  exact wrap64_in _ (by omega)
theorem take_step (v u x : Int) (s : Nat) (hx : 0 ≤ x ∧ x ≤ 255) (hv : 0 ≤ v ∧ v ≤ 65536) (hu : 0 < u ∧ u ≤ 65536) : wrap64 (v + wrap64 (u * (x / 2 ^ s).tmod 2)) = v + u * (x / 2 ^ s % 2) := by
  have hp := pow_pos2 s
  have h0 : 0 ≤ x / 2 ^ s := Int.ediv_nonneg hx.1 (by omega)
  rw [Int.tmod_eq_emod_of_nonneg h0]
  have h1 : x / 2 ^ s % 2 = 0 ∨ x / 2 ^ s % 2 = 1 := by omega
  rcases h1 with h1 | h1 <;> rw [h1]
  · rw [Int.mul_zero, wrap64_in 0 (by decide), wrap64_in _ (by omega)]
  · rw [Int.mul_one, wrap64_in u (by omega), wrap64_in _ (by omega)]
set_option maxHeartbeats 1000000 in
theorem refTake {w : World} {g : Nat} {l : List Int} {p : Nat} (n : Int) (hn : -9223372036854775808 ≤ n ∧ n ≤ 9223372036854775807) (h : Rdr 53 w g l p) :
    Calls Tryd.prog 22 #[.pointer (some ⟨g, 0, none⟩), .int .i64 n] w fun e w' => e = .returned (.tuple #[.int .i64 (valT l p n), .int .i64 (errT l p n)]) ∧ Rdr 53 w' g l (posT l p n) ∧ Only g w w' := by
  have HL := Lib.hid (refLeft h)
  by_cases h1 : n < 0 ∨ 16 < n
  · obtain ⟨e1, e2, e3⟩ := t_arg (l := l) (p := p) h1
    rw [e1, e2, e3]
    have hc1 : ¬ n < 0 → 16 < n := by omega
    have HC := Lib.hid hc1
    clear e1 e2 e3 h1 hc1
    have HR := Lib.hid h; clear h
    by_cases h2 : n < 0
    · go_enter Tryd.func22, Tryd.ntmps22
      go_wp2_with fail
      go_ret2
      exact ⟨rfl, HR.out, only_refl _ _⟩
    · have h3 := HC.out h2
      go_enter Tryd.func22, Tryd.ntmps22
      go_wp2_with fail
      go_ret2
      exact ⟨rfl, HR.out, only_refl _ _⟩
  · have g1 : ¬ n < 0 := by omega
    have g2 : ¬ 16 < n := by omega
    by_cases h2 : 8 * (l.length : Int) - p < n
    · obtain ⟨e1, e2, e3⟩ := t_short (l := l) (p := p) (n := n) (by omega) h2
      rw [e1, e2, e3]
      clear e1 e2 e3 h1
      have HR := Lib.hid h; clear h
      go_enter Tryd.func22, Tryd.ntmps22
      go_wp2_with fail
      refine HL.out.mono ?_
      rintro e w' ⟨rfl, m, rfl⟩
      go_wp2_with fail
      go_ret2
      exact ⟨rfl, HR.out, only_drewN (only_refl _ _) _⟩
    · obtain ⟨m, rfl⟩ := Int.eq_ofNat_of_zero_le (show 0 ≤ n by omega)
      obtain ⟨a, c, hh, hlc, hc, hbs, hp, ha⟩ := h
      obtain ⟨e1, e2, e3⟩ := t_ok (l := l) (p := p) (m := m) (by omega) (by omega)
      rw [e1, e2, e3]
      have hlt := blk_lt hh
      have hd : decide (8 * (l.length : Int) - p < m) = false := by simp; omega
      have hm16 : m ≤ 16 := by omega
      have hpm : p + m ≤ 8 * l.length := by omega
      clear e1 e2 e3 h1 h2 hn g1 g2
      go_enter Tryd.func22, Tryd.ntmps22
      go_wp2_with fail
      refine HL.out.mono ?_
      rintro e w' ⟨rfl, md, rfl⟩
      have hh2 : (w.drewN md).heap[g]? = some (.cells #[.slice a l.length c, .int .i64 p] 53 (0, 0)) := hh
      have HH := Lib.hid hh2
      clear hh hh2
      go_wp2_with fail
      go_loopw [6, 7, 8] (fun v u i wr => ∃ k : Nat, k ≤ m ∧ i = .int .i64 k ∧ v = .int .i64 (tk l p k) ∧ u = .int .i64 (2 ^ k) ∧ Hid (wr.heap[g]? = some (.cells #[.slice a l.length c, .int .i64 ((p + k : Nat) : Int)] 53 (0, 0))) ∧ Only g w wr) (fun _ _ i _ => (m - intOf i).toNat)
      case atStart => exact ⟨0, by omega, rfl, rfl, rfl, HH, only_drewN (only_refl _ _) _⟩
      case round =>
        obtain ⟨k, hk, rfl, rfl, rfl, HK, ho⟩ := hrel
        by_cases hlt2 : k < m
        · have hbs2 : Bs wr g a l := hbs.below (only_below ho (Nat.le_of_lt hlt))
          obtain ⟨q, s, hq⟩ : ∃ q s : Nat, p + k = 8 * q + s ∧ s < 8 := ⟨(p + k) / 8, (p + k) % 8, by omega, by omega⟩
          obtain ⟨hq, hs8⟩ := hq
          obtain ⟨b, off, rfl, hbl, hc2⟩ := hbs2.at_ (i := q) (by omega)
          have hx := hbs.1.at_ q
          have h0 : wr.cell? ⟨g, 0, none⟩ = some (.slice (some ⟨b, off, none⟩) l.length c) := blk_cell HK.out 0
          have h1' : wr.cell? ⟨g, 1, none⟩ = some (.int .i64 ((p + k : Nat) : Int)) := blk_cell HK.out 1
          have hf := blk_free HK.out 1
          have hbt : bt l (p + k) = l.getD q 0 / 2 ^ s % 2 := by rw [hq, bt_at _ _ _ hs8]; rfl
          have hts := tk_succ l p k
          rw [hbt, Int.mul_comm] at hts
          have hbd := tk_bd l p k
          have hpk := pow_mono2 (show k ≤ 16 by omega)
          have e16 : (2 : Int) ^ 16 = 65536 := by decide
          have hb1 : tk l p k ≤ 65536 ∧ (2 : Int) ^ k ≤ 65536 := by omega
          have hp1 := pow_pos2 k
          have hset := blk_set HK.out 1 (.int .i64 (((p + k : Nat) : Int) + 1))
          have HS := Lib.hid hset
          have HT := Lib.hid hts
          have hpks : (2 : Int) ^ (k + 1) = 2 * 2 ^ k := by rw [Int.pow_succ, Int.mul_comm]
          have HPK := Lib.hid hpks
          clear hset hts hbt hpk e16 hpks
          obtain ⟨P, hP⟩ : ∃ P : Nat, p + k = P := ⟨_, rfl⟩
          rw [hP] at h1' HS
          have q1 : (P : Int) / 8 = (q : Int) := by omega
          have q2 : (P : Int) % 8 = (s : Int) := by omega
          have q3 : q < l.length := by omega
          have HPP := Lib.hid hP
          have hPb : P ≤ 8 * l.length := by omega
          clear hP hq
          generalize l.getD q 0 = x at *
          generalize tk l p k = v at *
          generalize (2 : Int) ^ k = u at *
          go_wp2_with fail
          go_quiet (fail)
          go_wp2_with fail
          go_roundw
          case rel => exact ⟨k + 1, by omega, by go_num, by rw [HT.out, take_step v u x s hx ⟨hbd.1, hb1.1⟩ ⟨hp1, hb1.2⟩], by rw [HPK.out], Lib.hid (by rw [← Nat.add_assoc, HPP.out]; simpa using blk_set (w := wr.drewN _) HK.out 1 (.int .i64 ((P : Int) + 1))), only_set (only_drewN ho _) _ _⟩
          case measure => simp [intOf]; omega
        · obtain rfl : k = m := by omega
          have hbd := tk_bd l p k
          go_wp2_with fail
          go_ret2
          exact ⟨rfl, rdr_mk (w := w) HK.out hlc hc hbs ha ho (Nat.le_of_lt hlt) hpm, ho⟩
end Go.Proofs.YtpnnfekfoomgaaaDoor
