/- What a reader of package bits does: contracts of At, Left and Take (XRdR has the document's own). Condition: the numbers fit their kinds. -/
import Derived.Test.YtpnnfekfoomgaaaDoorRdR
set_option linter.unusedVariables false
set_option maxRecDepth 100000
namespace Go.Proofs.YtpnnfekfoomgaaaDoor
open Go.RowKit

theorem bitWidth (n : Int) (w : World) : Calls Tryd.prog 46 #[.int .i64 n] w fun e w' => e = .returned (.bool (isW n)) ∧ w = w' := by
  by_cases h : 0 ≤ n
  · by_cases h2 : n ≤ 16
    · have e : isW n = true := by simp [isW, h, h2]
      rw [e]
      clear e
      go_enter Tryd.func46, Tryd.ntmps46
      go_wp2
      go_ret
      exact ⟨by simp, rfl⟩
    · have e : isW n = false := by simp [isW, h2]
      rw [e]
      clear e
      go_enter Tryd.func46, Tryd.ntmps46
      go_wp2
      go_ret
      exact ⟨by simp, rfl⟩
  · have e : isW n = false := by simp [isW, h]
    rw [e]
    clear e
    have h' : n < 0 := by omega
    go_enter Tryd.func46, Tryd.ntmps46
    go_wp2
    go_ret
    exact ⟨rfl, rfl⟩

theorem bitAtN {w : World} {g : Nat} {l : List Int} {p : Nat} (h : Rdr 81 w g l p) :
    Calls Tryd.prog 21 #[.pointer (some ⟨g, 0, none⟩)] w fun e w' => e = .returned (.int .i64 p) ∧ w = w' := by
  obtain ⟨a, c, hh, _, _, _, _⟩ := h
  have h2 : w.cell? ⟨g, 1, none⟩ = some (.int .i64 p) := blk_cell hh 1
  clear hh
  go_enter Tryd.func21, Tryd.ntmps21
  go_wp2
  go_ret
  exact ⟨rfl, rfl⟩
theorem bitLeft {w : World} {g : Nat} {l : List Int} {p : Nat} (h : Rdr 81 w g l p) :
    Calls Tryd.prog 70 #[.pointer (some ⟨g, 0, none⟩)] w fun e w' => e = .returned (.int .i64 (8 * (l.length : Int) - p)) ∧ ∃ n, w' = w.drewN n := by
  obtain ⟨a, c, hh, hlc, hc, _, hp, _⟩ := h
  have h0 : w.cell? ⟨g, 0, none⟩ = some (.slice a l.length c) := blk_cell hh 0
  have h2 : w.cell? ⟨g, 1, none⟩ = some (.int .i64 p) := blk_cell hh 1
  have h1 : IntKind.i64.wrap (8 * (l.length : Int)) = 8 * (l.length : Int) := IntWalk.i64_in _ (by omega)
  have hs : IntKind.i64.wrap (8 * (l.length : Int) - p) = 8 * (l.length : Int) - p := IntWalk.i64_in _ (by omega)
  clear hh
  go_enter Tryd.func70, Tryd.ntmps70
  go_wp2
  go_quiet (fail)
  go_wp2
  go_ret
  exact ⟨rfl, _, rfl⟩
set_option maxHeartbeats 1000000 in
theorem bitTake {w : World} {g : Nat} {l : List Int} {p : Nat} (n : Int) (hn : -9223372036854775808 ≤ n ∧ n ≤ 9223372036854775807) (h : Rdr 81 w g l p) :
    Calls Tryd.prog 53 #[.pointer (some ⟨g, 0, none⟩), .int .i64 n] w fun e w' => e = .returned (.tuple #[.int .i64 (valT l p n), .int .i64 (errT l p n)]) ∧ Rdr 81 w' g l (posT l p n) ∧ Only g w w' := by
  have hw := fun W => bitWidth n W
  have HL := Lib.hid (bitLeft h)
  by_cases h1 : n < 0 ∨ 16 < n
  · obtain ⟨e1, e2, e3⟩ := t_arg (l := l) (p := p) h1
    rw [e1, e2, e3]
    have e4 : isW n = false := by unfold isW; simp; omega
    rw [e4] at hw
    have HW := Lib.hid hw; clear hw e1 e2 e3 e4 h1
    have HR := Lib.hid h; clear h
    go_enter Tryd.func53, Tryd.ntmps53
    go_wp2_with fail
    refine (HW.out _).mono ?_
    rintro e w' ⟨rfl, rfl⟩
    go_wp2_with fail
    go_ret2
    exact ⟨rfl, HR.out, only_refl _ _⟩
  · have e4 : isW n = true := by unfold isW; simp; omega
    rw [e4] at hw
    have HW := Lib.hid hw; clear hw e4
    by_cases h2 : 8 * (l.length : Int) - p < n
    · obtain ⟨e1, e2, e3⟩ := t_short (l := l) (p := p) (n := n) (by omega) h2
      rw [e1, e2, e3]
      clear e1 e2 e3
      have HR := Lib.hid h; clear h
      go_enter Tryd.func53, Tryd.ntmps53
      go_wp2_with fail
      refine (HW.out _).mono ?_
      rintro e w' ⟨rfl, rfl⟩
      go_wp2_with fail
      refine HL.out.mono ?_
      rintro e w' ⟨rfl, m, rfl⟩
      go_wp2_with fail
      go_ret2
      exact ⟨rfl, HR.out, only_drewN (only_refl _ _) _⟩
    · obtain ⟨m, rfl⟩ := Int.eq_ofNat_of_zero_le (show 0 ≤ n by omega)
      obtain ⟨a, c, hh, hlc, hc, hbs, hp, ha⟩ := h
      obtain ⟨e1, e2, e3⟩ := t_ok (l := l) (p := p) (m := m) (by omega) (by omega)
      rw [e1, e2, e3]
      have h0 : w.cell? ⟨g, 0, none⟩ = some (.slice a l.length c) := blk_cell hh 0
      have h1' : w.cell? ⟨g, 1, none⟩ = some (.int .i64 p) := blk_cell hh 1
      have hf := blk_free hh 1
      have hlt := blk_lt hh
      have HH := Lib.hid hh; clear hh e1 e2 e3
      have i1 : IntKind.i64.wrap ((p : Int) + m) = (p : Int) + m := IntWalk.i64_in _ (by omega)
      have i2 : (0 : Int) ≤ (p : Int) := by omega
      obtain ⟨F, hF⟩ : ∃ F : Nat, p / 8 = F := ⟨_, rfl⟩
      have i3 : (p : Int) / 8 = (F : Int) := by omega
      have i4 : 8 * F ≤ p := by omega
      have i5 : p < 8 * F + 8 := by omega
      have hd : decide (8 * (l.length : Int) - p < m) = false := by simp; omega
      have hm16 : m ≤ 16 := by omega
      have hpm : p + m ≤ 8 * l.length := by omega
      clear hF h1 h2 hn
      go_enter Tryd.func53, Tryd.ntmps53
      go_wp2_with fail
      refine (HW.out _).mono ?_
      rintro e w' ⟨rfl, rfl⟩
      go_wp2_with fail
      refine HL.out.mono ?_
      rintro e w' ⟨rfl, md, rfl⟩
      go_wp2_with fail
      go_quiet (fail)
      go_wp2_with fail
      go_loop [8, 9] (fun v i => ∃ k : Nat, k ≤ 3 ∧ i = .int .i64 ((F : Int) + k) ∧ v = .int .u64 (tk l (8 * F) (8 * k))) (fun _ i => (p + m + 8 - 8 * (intOf i)).toNat)
      case atStart => exact ⟨0, by omega, by simp, rfl⟩
      case round =>
        obtain ⟨k, hk, rfl, rfl⟩ := hrel
        by_cases hlt2 : 8 * (F + k) < p + m
        · obtain ⟨b, off, rfl, hbl, hc2⟩ := hbs.at_ (i := F + k) (by omega)
          have hx := hbs.1.at_ (F + k)
          have hs := tk_byte l hbs.1 F k
          have hbd := tk_bd l (8 * F) (8 * k)
          generalize l.getD (F + k) 0 = x at *
          have hz := or_step (tk l (8 * F) (8 * k)) x k (by omega) hbd hx
          rw [← hs] at hz
          have HZ := Lib.hid hz; clear hz hs
          have j0 : k ≤ 2 := by omega
          have j1 : (8 * ((F : Int) + k - F)).toNat = 8 * k := by omega
          have j2 : (0 : Int) ≤ (F : Int) + k := by omega
          have j3 : ((F : Int) + k).toNat = F + k := by omega
          have j4 : (F : Int) + k < l.length := by omega
          have j5 : 8 * ((F : Int) + k) < p + m := by omega
          go_wp2_with fail
          go_round
          case rel => exact ⟨k + 1, by omega, by omega, HZ.out⟩
          case measure => simp [intOf]; omega
        · obtain ⟨s, hs⟩ : ∃ s : Nat, p = 8 * F + s := ⟨p - 8 * F, by omega⟩
          have hcut := tk_cut l F s m (8 * k) (by omega)
          rw [← hs] at hcut
          have hbd := tk_bd l (8 * F) (8 * k)
          have hp24 := pow_mono2 (show 8 * k ≤ 24 by omega)
          have e24 : (2 : Int) ^ 24 = 16777216 := by decide
          have hwb : 0 ≤ tk l (8 * F) (8 * k) ∧ tk l (8 * F) (8 * k) < 16777216 := by omega
          clear hbd hp24 e24
          generalize tk l (8 * F) (8 * k) = v at *
          have j1 : ((p : Int) - 8 * F).toNat = s := by omega
          have j2 : (0 : Int) ≤ (p : Int) - 8 * F := by omega
          have j3 : ¬ 8 * ((F : Int) + k) < p + m := by omega
          have HCUT := Lib.hid hcut
          have HSS := Lib.hid hs
          clear hcut hs
          go_wp2_with fail
          go_ret2
          have hv2 : 0 ≤ v / 2 ^ s ∧ v / 2 ^ s < 16777216 := by
            have hps := pow_pos2 s
            refine ⟨Int.ediv_nonneg hwb.1 (by omega), ?_⟩
            have := Int.ediv_le_self (2 ^ s) hwb.1
            omega
          exact ⟨ret2 (take_val _ _ m hm16 hv2 HCUT.out) rfl, rdr_mk (w := w) (by simpa using blk_set (w := w.drewN (md + nq)) HH.out 1 (.int .i64 ((p : Int) + m))) hlc hc hbs ha (only_set (only_drewN (only_refl _ _) _) _ _) (Nat.le_of_lt hlt) hpm, only_set (only_drewN (only_refl _ _) _) _ _⟩

end Go.Proofs.YtpnnfekfoomgaaaDoor
