/- What the readers of package bits and of the document for layer 4 do: contracts of their calls. Condition: the numbers fit their kinds. -/
import Derived.Test.YtfgifimmdkiejaaLib
import Derived.Test.YtfgifimmdkiejaaBitM
import Derived.Test.YtfgifimmdkiejaaCut
import Derived.Deep.LoopGhost
set_option linter.unusedVariables false
namespace Go.Proofs.Ytfgifimmdkiejaa
open Go.RowKit

theorem ret2 {a c b d : Int} {k k' : IntKind} (h1 : a = c) (h2 : b = d) : Ending.returned (.tuple #[.int k a, .int k' b]) = .returned (.tuple #[.int k c, .int k' d]) := by rw [h1, h2]
/-- block g, of the type T, is a reader of the bytes l at the bit p -/
def Rdr (T : TypeId) (w : World) (g : Nat) (l : List Int) (p : Nat) : Prop :=
  ∃ a c, w.heap[g]? = some (.cells #[.slice a l.length c, .int .i64 p] T (0, 0)) ∧ l.length ≤ c ∧ l.length ≤ 140737488355328 ∧ Bs w g a l ∧ p ≤ 8 * l.length ∧ (a = none → l.length = 0 ∧ c = 0)
theorem rdr_mk {T : TypeId} {w : World} {g : Nat} {l : List Int} {p' : Nat} {a : Option Addr} {c : Nat} {w' : World} (hh : w'.heap[g]? = some (.cells #[.slice a l.length c, .int .i64 p'] T (0, 0))) (hlc : l.length ≤ c) (hc : l.length ≤ 140737488355328) (hbs : Bs w g a l) (ha : a = none → l.length = 0 ∧ c = 0) (ho : Only g w w') (hg : g ≤ w.heap.size) (hp : p' ≤ 8 * l.length) : Rdr T w' g l p' :=
  ⟨a, c, hh, hlc, hc, hbs.below (only_below ho hg), hp, ha⟩
def okT (l : List Int) (p : Nat) (n : Int) : Bool := decide (0 ≤ n ∧ n ≤ 16 ∧ n ≤ 8 * l.length - p)
def errT (l : List Int) (p : Nat) (n : Int) : Int := if n < 0 ∨ 16 < n then 1 else if 8 * (l.length : Int) - p < n then 2 else 0
def valT (l : List Int) (p : Nat) (n : Int) : Int := if okT l p n then tk l p n.toNat else 0
def posT (l : List Int) (p : Nat) (n : Int) : Nat := if okT l p n then p + n.toNat else p
theorem t_arg {l : List Int} {p : Nat} {n : Int} (h : n < 0 ∨ 16 < n) : errT l p n = 1 ∧ valT l p n = 0 ∧ posT l p n = p := by
  have h1 : okT l p n = false := by unfold okT; simp; omega
  simp [errT, valT, posT, h1, h]
theorem t_short {l : List Int} {p : Nat} {n : Int} (h : 0 ≤ n ∧ n ≤ 16) (h2 : 8 * (l.length : Int) - p < n) : errT l p n = 2 ∧ valT l p n = 0 ∧ posT l p n = p := by
  have h1 : okT l p n = false := by unfold okT; simp; omega
  have h3 : ¬ (n < 0 ∨ 16 < n) := by omega
  simp [errT, valT, posT, h1, h3, h2]
theorem t_ok {l : List Int} {p m : Nat} (h : m ≤ 16) (h2 : p + m ≤ 8 * l.length) : errT l p m = 0 ∧ valT l p m = tk l p m ∧ posT l p m = p + m := by
  have h1 : okT l p m = true := by unfold okT; simp; omega
  have h3 : ¬ ((m : Int) < 0 ∨ 16 < (m : Int)) := by omega
  have h4 : ¬ (8 * (l.length : Int) - p < m) := by omega
  simp [errT, valT, posT, h1, h3, h4]
def isW (n : Int) : Bool := decide (0 ≤ n ∧ n ≤ 16)

theorem bitWidth (n : Int) (w : World) : Calls Try.prog 42 #[.int .i64 n] w fun e w' => e = .returned (.bool (isW n)) ∧ w = w' := by
  by_cases h : 0 ≤ n
  · by_cases h2 : n ≤ 16
    · have e : isW n = true := by simp [isW, h, h2]
      rw [e]
      clear e
      go_enter Try.func42, Try.ntmps42
      go_wp2
      go_ret
      exact ⟨by simp, rfl⟩
    · have e : isW n = false := by simp [isW, h2]
      rw [e]
      clear e
      go_enter Try.func42, Try.ntmps42
      go_wp2
      go_ret
      exact ⟨by simp, rfl⟩
  · have e : isW n = false := by simp [isW, h]
    rw [e]
    clear e
    have h' : n < 0 := by omega
    go_enter Try.func42, Try.ntmps42
    go_wp2
    go_ret
    exact ⟨rfl, rfl⟩

theorem bitAtN {w : World} {g : Nat} {l : List Int} {p : Nat} (h : Rdr 78 w g l p) :
    Calls Try.prog 27 #[.pointer (some ⟨g, 0, none⟩)] w fun e w' => e = .returned (.int .i64 p) ∧ w = w' := by
  obtain ⟨a, c, hh, _, _, _, _⟩ := h
  have h2 : w.cell? ⟨g, 1, none⟩ = some (.int .i64 p) := blk_cell hh 1
  clear hh
  go_enter Try.func27, Try.ntmps27
  go_wp2
  go_ret
  exact ⟨rfl, rfl⟩
theorem bitNext {w : World} {g : Nat} {l : List Int} {p : Nat} (h : Rdr 78 w g l p) :
    Calls Try.prog 43 #[.pointer (some ⟨g, 0, none⟩)] w fun e w' => e = .returned (.int .i64 (((p + 7) / 8 : Nat))) ∧ w = w' := by
  obtain ⟨a, c, hh, _, _, _, hp, _⟩ := h
  have h2 : w.cell? ⟨g, 1, none⟩ = some (.int .i64 p) := blk_cell hh 1
  clear hh
  go_enter Try.func43, Try.ntmps43
  go_wp2
  go_ret
  exact ⟨by simp, rfl⟩
theorem bitLeft {w : World} {g : Nat} {l : List Int} {p : Nat} (h : Rdr 78 w g l p) :
    Calls Try.prog 28 #[.pointer (some ⟨g, 0, none⟩)] w fun e w' => e = .returned (.int .i64 (8 * (l.length : Int) - p)) ∧ ∃ n, w' = w.drewN n := by
  obtain ⟨a, c, hh, hlc, hc, _, hp, _⟩ := h
  have h0 : w.cell? ⟨g, 0, none⟩ = some (.slice a l.length c) := blk_cell hh 0
  have h2 : w.cell? ⟨g, 1, none⟩ = some (.int .i64 p) := blk_cell hh 1
  have h1 : IntKind.i64.wrap (8 * (l.length : Int)) = 8 * (l.length : Int) := IntWalk.i64_in _ (by omega)
  have hs : IntKind.i64.wrap (8 * (l.length : Int) - p) = 8 * (l.length : Int) - p := IntWalk.i64_in _ (by omega)
  clear hh
  go_enter Try.func28, Try.ntmps28
  go_wp2
  go_quiet (fail)
  go_wp2
  go_ret
  exact ⟨rfl, _, rfl⟩
theorem refLeft {w : World} {g : Nat} {l : List Int} {p : Nat} (h : Rdr 44 w g l p) :
    Calls Try.prog 29 #[.pointer (some ⟨g, 0, none⟩)] w fun e w' => e = .returned (.int .i64 (8 * (l.length : Int) - p)) ∧ ∃ n, w' = w.drewN n := by
  obtain ⟨a, c, hh, hlc, hc, _, hp, _⟩ := h
  have h0 : w.cell? ⟨g, 0, none⟩ = some (.slice a l.length c) := blk_cell hh 0
  have h2 : w.cell? ⟨g, 1, none⟩ = some (.int .i64 p) := blk_cell hh 1
  have h1 : IntKind.i64.wrap (8 * (l.length : Int)) = 8 * (l.length : Int) := IntWalk.i64_in _ (by omega)
  have hs : IntKind.i64.wrap (8 * (l.length : Int) - p) = 8 * (l.length : Int) - p := IntWalk.i64_in _ (by omega)
  clear hh
  go_enter Try.func29, Try.ntmps29
  go_wp2
  go_quiet (fail)
  go_wp2
  go_ret
  exact ⟨rfl, _, rfl⟩

/-- the end of the byte that the bit p is in -/
def upT (p : Nat) : Nat := 8 * ((p + 7) / 8)
theorem bitAlign {w : World} {g : Nat} {l : List Int} {p : Nat} (h : Rdr 78 w g l p) :
    Calls Try.prog 22 #[.pointer (some ⟨g, 0, none⟩)] w fun e w' => e = .returned (.tuple #[]) ∧ Rdr 78 w' g l (upT p) ∧ Only g w w' := by
  have hn := bitNext h
  obtain ⟨a, c, hh, hlc, hc, hbs, hp, ha⟩ := h
  have h2 : w.cell? ⟨g, 1, none⟩ = some (.int .i64 p) := blk_cell hh 1
  have hf := blk_free hh 1
  have hlt := blk_lt hh
  have hset := blk_set hh 1 (.int .i64 (8 * (((p + 7) / 8 : Nat) : Int)))
  have hup : upT p ≤ 8 * l.length := by unfold upT; omega
  have hu : ((upT p : Nat) : Int) = 8 * (((p + 7) / 8 : Nat) : Int) := by unfold upT; omega
  have HN := Lib.hid hn; clear hn
  have HS := Lib.hid hset; clear hset hh
  have HU := Lib.hid hu; clear hu
  have hq : (p + 7) / 8 ≤ l.length := by omega
  generalize (p + 7) / 8 = q at *
  go_enter Try.func22, Try.ntmps22
  go_wp2_with fail
  refine HN.out.mono ?_
  rintro e w' ⟨rfl, rfl⟩
  go_wp2_with fail
  go_end0
  exact ⟨rfl, rdr_mk (w := w) (by rw [HU.out]; simpa using HS.out) hlc hc hbs ha (only_set (only_refl _ _) _ _) (Nat.le_of_lt hlt) hup, only_set (only_refl _ _) _ _⟩
theorem refAlign {w : World} {g : Nat} {l : List Int} {p : Nat} (h : Rdr 44 w g l p) :
    Calls Try.prog 23 #[.pointer (some ⟨g, 0, none⟩)] w fun e w' => e = .returned (.tuple #[]) ∧ Rdr 44 w' g l (upT p) ∧ Only g w w' := by
  obtain ⟨a, c, hh, hlc, hc, hbs, hp, ha⟩ := h
  have hlt := blk_lt hh
  have hup : upT p ≤ 8 * l.length := by unfold upT; omega
  have hu : ((upT p : Nat) : Int) = 8 * (((p + 7) / 8 : Nat) : Int) := by unfold upT; omega
  go_enter Try.func23, Try.ntmps23
  go_wp2_with fail
  go_loopg [] (upT p - p) (fun k wr => ∃ q : Nat, p ≤ q ∧ q + k ≤ upT p ∧ upT p ≤ q + k ∧ wr.heap[g]? = some (.cells #[.slice a l.length c, .int .i64 q] 44 (0, 0)) ∧ Only g w wr)
  case atStart => exact ⟨p, Nat.le_refl _, by unfold upT; omega, by unfold upT; omega, hh, only_refl _ _⟩
  case round =>
    obtain ⟨q, hq1, hq2, hq3, hw, ho⟩ := hrel
    have h2 : wr.cell? ⟨g, 1, none⟩ = some (.int .i64 q) := blk_cell hw 1
    have hf := blk_free hw 1
    have hset := blk_set hw 1 (.int .i64 ((q : Int) + 1))
    have HS := Lib.hid hset; have HW := Lib.hid hw; clear hset hw hh
    by_cases h8 : q < upT p
    · have t1 : ((q : Int) % 8 != 0) = true := by rw [bne_iff_ne]; unfold upT at *; omega
      have hk : 1 ≤ gk := by omega
      clear hu
      go_wp2_with fail
      go_roundg (gk - 1)
      case measure => omega
      case rel => exact ⟨q + 1, by omega, by omega, by omega, by simpa using HS.out, only_set ho _ _⟩
    · have t1 : ((q : Int) % 8 != 0) = false := by rw [bne_eq_false_iff_eq]; unfold upT at *; omega
      have hqu : q = upT p := by omega
      have HQ := Lib.hid hqu; clear hqu hu
      go_wp2_with fail
      go_end0
      exact ⟨rfl, rdr_mk (w := w) (by rw [← HQ.out]; exact HW.out) hlc hc hbs ha ho (Nat.le_of_lt hlt) hup, ho⟩

theorem take_val (x T : Int) (m : Nat) (hm : m ≤ 16) (hx : 0 ≤ x ∧ x < 16777216) (h : x % 2 ^ m = T) : wrap64 (bits .and .u64 x (IntKind.u64.wrap (IntKind.u64.wrap (2 ^ m) - 1))) = T := by
  have h1 := pow_mono2 hm
  have e16 : (2 : Int) ^ 16 = 65536 := by decide
  have hp := pow_pos2 m
  have h2 : IntKind.u64.wrap (2 ^ m) = 2 ^ m := IntWalk.u64_in _ (by omega)
  have h3 : IntKind.u64.wrap ((2 : Int) ^ m - 1) = 2 ^ m - 1 := IntWalk.u64_in _ (by omega)
  rw [h2, h3, and_mask x m hm (by omega), h]
  have := Int.emod_lt_of_pos x hp
  have := Int.emod_nonneg x (b := (2 : Int) ^ m) (by omega)
  exact wrap64_in _ (by omega)
set_option maxHeartbeats 1000000 in
theorem bitTake {w : World} {g : Nat} {l : List Int} {p : Nat} (n : Int) (hn : -9223372036854775808 ≤ n ∧ n ≤ 9223372036854775807) (h : Rdr 78 w g l p) :
    Calls Try.prog 20 #[.pointer (some ⟨g, 0, none⟩), .int .i64 n] w fun e w' => e = .returned (.tuple #[.int .i64 (valT l p n), .int .i64 (errT l p n)]) ∧ Rdr 78 w' g l (posT l p n) ∧ Only g w w' := by
  have hw := fun W => bitWidth n W
  have HL := Lib.hid (bitLeft h)
  by_cases h1 : n < 0 ∨ 16 < n
  · obtain ⟨e1, e2, e3⟩ := t_arg (l := l) (p := p) h1
    rw [e1, e2, e3]
    have e4 : isW n = false := by unfold isW; simp; omega
    rw [e4] at hw
    have HW := Lib.hid hw; clear hw e1 e2 e3 e4 h1
    have HR := Lib.hid h; clear h
    go_enter Try.func20, Try.ntmps20
    go_wp2_with fail
    refine (HW.out _).mono ?_
    rintro e w' ⟨rfl, rfl⟩
    go_wp2_with fail
    go_ret2
    exact ⟨rfl, HR.out, only_refl _ _⟩
  · have e4 : isW n = true := by unfold isW; simp; omega
    rw [e4] at hw
    have HW := Lib.hid hw; clear hw e4
    by_cases h2 : 8 * (l.length : Int) - p < n
    · obtain ⟨e1, e2, e3⟩ := t_short (l := l) (p := p) (n := n) (by omega) h2
      rw [e1, e2, e3]
      clear e1 e2 e3
      have HR := Lib.hid h; clear h
      go_enter Try.func20, Try.ntmps20
      go_wp2_with fail
      refine (HW.out _).mono ?_
      rintro e w' ⟨rfl, rfl⟩
      go_wp2_with fail
      refine HL.out.mono ?_
      rintro e w' ⟨rfl, m, rfl⟩
      go_wp2_with fail
      go_ret2
      exact ⟨rfl, HR.out, only_drewN (only_refl _ _) _⟩
    · obtain ⟨m, rfl⟩ := Int.eq_ofNat_of_zero_le (show 0 ≤ n by omega)
      obtain ⟨a, c, hh, hlc, hc, hbs, hp, ha⟩ := h
      obtain ⟨e1, e2, e3⟩ := t_ok (l := l) (p := p) (m := m) (by omega) (by omega)
      rw [e1, e2, e3]
      have h0 : w.cell? ⟨g, 0, none⟩ = some (.slice a l.length c) := blk_cell hh 0
      have h1' : w.cell? ⟨g, 1, none⟩ = some (.int .i64 p) := blk_cell hh 1
      have hf := blk_free hh 1
      have hlt := blk_lt hh
      have HH := Lib.hid hh; clear hh e1 e2 e3
      have i1 : IntKind.i64.wrap ((p : Int) + m) = (p : Int) + m := IntWalk.i64_in _ (by omega)
      have i2 : (0 : Int) ≤ (p : Int) := by omega
      obtain ⟨F, hF⟩ : ∃ F : Nat, p / 8 = F := ⟨_, rfl⟩
      have i3 : (p : Int) / 8 = (F : Int) := by omega
      have i4 : 8 * F ≤ p := by omega
      have i5 : p < 8 * F + 8 := by omega
      have hd : decide (8 * (l.length : Int) - p < m) = false := by simp; omega
      have hm16 : m ≤ 16 := by omega
      have hpm : p + m ≤ 8 * l.length := by omega
      clear hF h1 h2 hn
      go_enter Try.func20, Try.ntmps20
      go_wp2_with fail
      refine (HW.out _).mono ?_
      rintro e w' ⟨rfl, rfl⟩
      go_wp2_with fail
      refine HL.out.mono ?_
      rintro e w' ⟨rfl, md, rfl⟩
      go_wp2_with fail
      go_quiet (fail)
      go_wp2_with fail
      go_loop [8, 9] (fun v i => ∃ k : Nat, k ≤ 3 ∧ i = .int .i64 ((F : Int) + k) ∧ v = .int .u64 (tk l (8 * F) (8 * k))) (fun _ i => (p + m + 8 - 8 * (intOf i)).toNat)
      case atStart => exact ⟨0, by omega, by simp, rfl⟩
      case round =>
        obtain ⟨k, hk, rfl, rfl⟩ := hrel
        by_cases hlt2 : 8 * (F + k) < p + m
        · obtain ⟨b, off, rfl, hbl, hc2⟩ := hbs.at_ (i := F + k) (by omega)
          have hx := hbs.1.at_ (F + k)
          have hs := tk_byte l hbs.1 F k
          have hbd := tk_bd l (8 * F) (8 * k)
          generalize l.getD (F + k) 0 = x at *
          have hz := or_step (tk l (8 * F) (8 * k)) x k (by omega) hbd hx
          rw [← hs] at hz
          have HZ := Lib.hid hz; clear hz hs
          have j0 : k ≤ 2 := by omega
          have j1 : (8 * ((F : Int) + k - F)).toNat = 8 * k := by omega
          have j2 : (0 : Int) ≤ (F : Int) + k := by omega
          have j3 : ((F : Int) + k).toNat = F + k := by omega
          have j4 : (F : Int) + k < l.length := by omega
          have j5 : 8 * ((F : Int) + k) < p + m := by omega
          go_wp2_with fail
          go_round
          case rel => exact ⟨k + 1, by omega, by omega, HZ.out⟩
          case measure => simp [intOf]; omega
        · obtain ⟨s, hs⟩ : ∃ s : Nat, p = 8 * F + s := ⟨p - 8 * F, by omega⟩
          have hcut := tk_cut l F s m (8 * k) (by omega)
          rw [← hs] at hcut
          have hbd := tk_bd l (8 * F) (8 * k)
          have hp24 := pow_mono2 (show 8 * k ≤ 24 by omega)
          have e24 : (2 : Int) ^ 24 = 16777216 := by decide
          have hwb : 0 ≤ tk l (8 * F) (8 * k) ∧ tk l (8 * F) (8 * k) < 16777216 := by omega
          clear hbd hp24 e24
          generalize tk l (8 * F) (8 * k) = v at *
          have j1 : ((p : Int) - 8 * F).toNat = s := by omega
          have j2 : (0 : Int) ≤ (p : Int) - 8 * F := by omega
          have j3 : ¬ 8 * ((F : Int) + k) < p + m := by omega
          have HCUT := Lib.hid hcut
          have HSS := Lib.hid hs
          clear hcut hs
          go_wp2_with fail
          go_ret2
          have hv2 : 0 ≤ v / 2 ^ s ∧ v / 2 ^ s < 16777216 := by
            have hps := pow_pos2 s
            refine ⟨Int.ediv_nonneg hwb.1 (by omega), ?_⟩
            have := Int.ediv_le_self (2 ^ s) hwb.1
            omega
          exact ⟨ret2 (take_val _ _ m hm16 hv2 HCUT.out) rfl, rdr_mk (w := w) (by simpa using blk_set (w := w.drewN (md + nq)) HH.out 1 (.int .i64 ((p : Int) + m))) hlc hc hbs ha (only_set (only_drewN (only_refl _ _) _) _ _) (Nat.le_of_lt hlt) hpm, only_set (only_drewN (only_refl _ _) _) _ _⟩

theorem take_step (v u x : Int) (s : Nat) (hx : 0 ≤ x ∧ x ≤ 255) (hv : 0 ≤ v ∧ v ≤ 65536) (hu : 0 < u ∧ u ≤ 65536) : wrap64 (v + wrap64 (u * (x / 2 ^ s).tmod 2)) = v + u * (x / 2 ^ s % 2) := by
  have hp := pow_pos2 s
  have h0 : 0 ≤ x / 2 ^ s := Int.ediv_nonneg hx.1 (by omega)
  rw [Int.tmod_eq_emod_of_nonneg h0]
  have h1 : x / 2 ^ s % 2 = 0 ∨ x / 2 ^ s % 2 = 1 := by omega
  rcases h1 with h1 | h1 <;> rw [h1]
  · rw [Int.mul_zero, wrap64_in 0 (by decide), wrap64_in _ (by omega)]
  · rw [Int.mul_one, wrap64_in u (by omega), wrap64_in _ (by omega)]
set_option maxHeartbeats 1000000 in
theorem refTake {w : World} {g : Nat} {l : List Int} {p : Nat} (n : Int) (hn : -9223372036854775808 ≤ n ∧ n ≤ 9223372036854775807) (h : Rdr 44 w g l p) :
    Calls Try.prog 21 #[.pointer (some ⟨g, 0, none⟩), .int .i64 n] w fun e w' => e = .returned (.tuple #[.int .i64 (valT l p n), .int .i64 (errT l p n)]) ∧ Rdr 44 w' g l (posT l p n) ∧ Only g w w' := by
  have HL := Lib.hid (refLeft h)
  by_cases h1 : n < 0 ∨ 16 < n
  · obtain ⟨e1, e2, e3⟩ := t_arg (l := l) (p := p) h1
    rw [e1, e2, e3]
    have hc1 : ¬ n < 0 → 16 < n := by omega
    have HC := Lib.hid hc1
    clear e1 e2 e3 h1 hc1
    have HR := Lib.hid h; clear h
    by_cases h2 : n < 0
    · go_enter Try.func21, Try.ntmps21
      go_wp2_with fail
      go_ret2
      exact ⟨rfl, HR.out, only_refl _ _⟩
    · have h3 := HC.out h2
      go_enter Try.func21, Try.ntmps21
      go_wp2_with fail
      go_ret2
      exact ⟨rfl, HR.out, only_refl _ _⟩
  · have g1 : ¬ n < 0 := by omega
    have g2 : ¬ 16 < n := by omega
    by_cases h2 : 8 * (l.length : Int) - p < n
    · obtain ⟨e1, e2, e3⟩ := t_short (l := l) (p := p) (n := n) (by omega) h2
      rw [e1, e2, e3]
      clear e1 e2 e3 h1
      have HR := Lib.hid h; clear h
      go_enter Try.func21, Try.ntmps21
      go_wp2_with fail
      refine HL.out.mono ?_
      rintro e w' ⟨rfl, m, rfl⟩
      go_wp2_with fail
      go_ret2
      exact ⟨rfl, HR.out, only_drewN (only_refl _ _) _⟩
    · obtain ⟨m, rfl⟩ := Int.eq_ofNat_of_zero_le (show 0 ≤ n by omega)
      obtain ⟨a, c, hh, hlc, hc, hbs, hp, ha⟩ := h
      obtain ⟨e1, e2, e3⟩ := t_ok (l := l) (p := p) (m := m) (by omega) (by omega)
      rw [e1, e2, e3]
      have hlt := blk_lt hh
      have hd : decide (8 * (l.length : Int) - p < m) = false := by simp; omega
      have hm16 : m ≤ 16 := by omega
      have hpm : p + m ≤ 8 * l.length := by omega
      clear e1 e2 e3 h1 h2 hn g1 g2
      go_enter Try.func21, Try.ntmps21
      go_wp2_with fail
      refine HL.out.mono ?_
      rintro e w' ⟨rfl, md, rfl⟩
      have hh2 : (w.drewN md).heap[g]? = some (.cells #[.slice a l.length c, .int .i64 p] 44 (0, 0)) := hh
      have HH := Lib.hid hh2
      clear hh hh2
      go_wp2_with fail
      go_loopw [6, 7, 8] (fun v u i wr => ∃ k : Nat, k ≤ m ∧ i = .int .i64 k ∧ v = .int .i64 (tk l p k) ∧ u = .int .i64 (2 ^ k) ∧ Hid (wr.heap[g]? = some (.cells #[.slice a l.length c, .int .i64 ((p + k : Nat) : Int)] 44 (0, 0))) ∧ Only g w wr) (fun _ _ i _ => (m - intOf i).toNat)
      case atStart => exact ⟨0, by omega, rfl, rfl, rfl, HH, only_drewN (only_refl _ _) _⟩
      case round =>
        obtain ⟨k, hk, rfl, rfl, rfl, HK, ho⟩ := hrel
        by_cases hlt2 : k < m
        · have hbs2 : Bs wr g a l := hbs.below (only_below ho (Nat.le_of_lt hlt))
          obtain ⟨q, s, hq⟩ : ∃ q s : Nat, p + k = 8 * q + s ∧ s < 8 := ⟨(p + k) / 8, (p + k) % 8, by omega, by omega⟩
          obtain ⟨hq, hs8⟩ := hq
          obtain ⟨b, off, rfl, hbl, hc2⟩ := hbs2.at_ (i := q) (by omega)
          have hx := hbs.1.at_ q
          have h0 : wr.cell? ⟨g, 0, none⟩ = some (.slice (some ⟨b, off, none⟩) l.length c) := blk_cell HK.out 0
          have h1' : wr.cell? ⟨g, 1, none⟩ = some (.int .i64 ((p + k : Nat) : Int)) := blk_cell HK.out 1
          have hf := blk_free HK.out 1
          have hbt : bt l (p + k) = l.getD q 0 / 2 ^ s % 2 := by rw [hq, bt_at _ _ _ hs8]; rfl
          have hts := tk_succ l p k
          rw [hbt, Int.mul_comm] at hts
          have hbd := tk_bd l p k
          have hpk := pow_mono2 (show k ≤ 16 by omega)
          have e16 : (2 : Int) ^ 16 = 65536 := by decide
          have hb1 : tk l p k ≤ 65536 ∧ (2 : Int) ^ k ≤ 65536 := by omega
          have hp1 := pow_pos2 k
          have hset := blk_set HK.out 1 (.int .i64 (((p + k : Nat) : Int) + 1))
          have HS := Lib.hid hset
          have HT := Lib.hid hts
          have hpks : (2 : Int) ^ (k + 1) = 2 * 2 ^ k := by rw [Int.pow_succ, Int.mul_comm]
          have HPK := Lib.hid hpks
          clear hset hts hbt hpk e16 hpks
          obtain ⟨P, hP⟩ : ∃ P : Nat, p + k = P := ⟨_, rfl⟩
          rw [hP] at h1' HS
          have q1 : (P : Int) / 8 = (q : Int) := by omega
          have q2 : (P : Int) % 8 = (s : Int) := by omega
          have q3 : q < l.length := by omega
          have HPP := Lib.hid hP
          have hPb : P ≤ 8 * l.length := by omega
          clear hP hq
          generalize l.getD q 0 = x at *
          generalize tk l p k = v at *
          generalize (2 : Int) ^ k = u at *
          go_wp2_with fail
          go_quiet (fail)
          go_wp2_with fail
          go_roundw
          case rel => exact ⟨k + 1, by omega, by go_num, by rw [HT.out, take_step v u x s hx ⟨hbd.1, hb1.1⟩ ⟨hp1, hb1.2⟩], by rw [HPK.out], Lib.hid (by rw [← Nat.add_assoc, HPP.out]; simpa using blk_set (w := wr.drewN _) HK.out 1 (.int .i64 ((P : Int) + 1))), only_set (only_drewN ho _) _ _⟩
          case measure => simp [intOf]; omega
        · obtain rfl : k = m := by omega
          have hbd := tk_bd l p k
          go_wp2_with fail
          go_ret2
          exact ⟨rfl, rdr_mk (w := w) HK.out hlc hc hbs ha ho (Nat.le_of_lt hlt) hpm, ho⟩
end Go.Proofs.Ytfgifimmdkiejaa
