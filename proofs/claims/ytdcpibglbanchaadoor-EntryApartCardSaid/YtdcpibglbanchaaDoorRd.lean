/- What the document's own reader of bits does: contracts of Left and Take (XBitR has these and the program's own). Condition: the numbers fit their kinds. What a reader of package bits does: contracts of At, Left and Take (XRdR has the document's own). Condition: the numbers fit their kinds. What a reader of package bits does with whole bytes: contracts of next and Align. Condition: the numbers fit their kinds. What bytes.Clone makes: the same bytes in a row of the call's own. No condition. What New of package bits makes: a reader of a copy of the bytes. No condition. What the readers do with rows of bytes: contracts of Bytes of package bits and of the document. Condition: the numbers fit their kinds. An append onto a row of the call's own, of whatever elements of one cell, wherever they come from; where the new row lies. No condition. -/
import Derived.Test.YtdcpibglbanchaaDoorGa
import Derived.Deep.LoopGhost
import Derived.Deep.DeepCutAuto
import Derived.Maps.AppendAt
set_option linter.unusedVariables false
set_option maxRecDepth 100000
namespace Go.Proofs.YtdcpibglbanchaaDoor
open Go.RowKit

theorem ret2 {a c b d : Int} {k k' : IntKind} (h1 : a = c) (h2 : b = d) : Ending.returned (.tuple #[.int k a, .int k' b]) = .returned (.tuple #[.int k c, .int k' d]) := by rw [h1, h2]
/-- block g, of the type T, is a reader of the bytes l at the bit p -/
def Rdr (T : TypeId) (w : World) (g : Nat) (l : List Int) (p : Nat) : Prop :=
  ∃ a c, w.heap[g]? = some (.cells #[.slice a l.length c, .int .i64 p] T (0, 0)) ∧ l.length ≤ c ∧ l.length ≤ 140737488355328 ∧ Bs w g a l ∧ p ≤ 8 * l.length ∧ (a = none → l.length = 0 ∧ c = 0)
theorem rdr_mk {T : TypeId} {w : World} {g : Nat} {l : List Int} {p' : Nat} {a : Option Addr} {c : Nat} {w' : World} (hh : w'.heap[g]? = some (.cells #[.slice a l.length c, .int .i64 p'] T (0, 0))) (hlc : l.length ≤ c) (hc : l.length ≤ 140737488355328) (hbs : Bs w g a l) (ha : a = none → l.length = 0 ∧ c = 0) (ho : Only g w w') (hg : g ≤ w.heap.size) (hp : p' ≤ 8 * l.length) : Rdr T w' g l p' :=
  ⟨a, c, hh, hlc, hc, hbs.below (only_below ho hg), hp, ha⟩
def okT (l : List Int) (p : Nat) (n : Int) : Bool := decide (0 ≤ n ∧ n ≤ 16 ∧ n ≤ 8 * l.length - p)
def errT (l : List Int) (p : Nat) (n : Int) : Int := if n < 0 ∨ 16 < n then 1 else if 8 * (l.length : Int) - p < n then 2 else 0
def valT (l : List Int) (p : Nat) (n : Int) : Int := if okT l p n then tk l p n.toNat else 0
def posT (l : List Int) (p : Nat) (n : Int) : Nat := if okT l p n then p + n.toNat else p
theorem t_arg {l : List Int} {p : Nat} {n : Int} (h : n < 0 ∨ 16 < n) : errT l p n = 1 ∧ valT l p n = 0 ∧ posT l p n = p := by
  have h1 : okT l p n = false := by unfold okT; simp; omega
  simp [errT, valT, posT, h1, h]
theorem t_short {l : List Int} {p : Nat} {n : Int} (h : 0 ≤ n ∧ n ≤ 16) (h2 : 8 * (l.length : Int) - p < n) : errT l p n = 2 ∧ valT l p n = 0 ∧ posT l p n = p := by
  have h1 : okT l p n = false := by unfold okT; simp; omega
  have h3 : ¬ (n < 0 ∨ 16 < n) := by omega
  simp [errT, valT, posT, h1, h3, h2]
theorem t_ok {l : List Int} {p m : Nat} (h : m ≤ 16) (h2 : p + m ≤ 8 * l.length) : errT l p m = 0 ∧ valT l p m = tk l p m ∧ posT l p m = p + m := by
  have h1 : okT l p m = true := by unfold okT; simp; omega
  have h3 : ¬ ((m : Int) < 0 ∨ 16 < (m : Int)) := by omega
  have h4 : ¬ (8 * (l.length : Int) - p < m) := by omega
  simp [errT, valT, posT, h1, h3, h4]
def isW (n : Int) : Bool := decide (0 ≤ n ∧ n ≤ 16)

theorem take_val (x T : Int) (m : Nat) (hm : m ≤ 16) (hx : 0 ≤ x ∧ x < 16777216) (h : x % 2 ^ m = T) : wrap64 (bits .and .u64 x (IntKind.u64.wrap (IntKind.u64.wrap (2 ^ m) - 1))) = T := by
  have h1 := pow_mono2 hm
  have e16 : (2 : Int) ^ 16 = 65536 := by decide
  have hp := pow_pos2 m
  have h2 : IntKind.u64.wrap (2 ^ m) = 2 ^ m := IntWalk.u64_in _ (by omega)
  have h3 : IntKind.u64.wrap ((2 : Int) ^ m - 1) = 2 ^ m - 1 := IntWalk.u64_in _ (by omega)
  rw [h2, h3, and_mask x m hm (by omega), h]
  have := Int.emod_lt_of_pos x hp
  have := Int.emod_nonneg x (b := (2 : Int) ^ m) (by omega)
  exact wrap64_in _ (by omega)
theorem take_step (v u x : Int) (s : Nat) (hx : 0 ≤ x ∧ x ≤ 255) (hv : 0 ≤ v ∧ v ≤ 65536) (hu : 0 < u ∧ u ≤ 65536) : wrap64 (v + wrap64 (u * (x / 2 ^ s).tmod 2)) = v + u * (x / 2 ^ s % 2) := by
  have hp := pow_pos2 s
  have h0 : 0 ≤ x / 2 ^ s := Int.ediv_nonneg hx.1 (by omega)
  rw [Int.tmod_eq_emod_of_nonneg h0]
  have h1 : x / 2 ^ s % 2 = 0 ∨ x / 2 ^ s % 2 = 1 := by omega
  rcases h1 with h1 | h1 <;> rw [h1]
  · rw [Int.mul_zero, wrap64_in 0 (by decide), wrap64_in _ (by omega)]
  · rw [Int.mul_one, wrap64_in u (by omega), wrap64_in _ (by omega)]
end Go.Proofs.YtdcpibglbanchaaDoor

set_option linter.unusedVariables false
set_option maxRecDepth 100000
namespace Go.Proofs.YtdcpibglbanchaaDoor
open Go.RowKit

theorem bitWidth (n : Int) (w : World) : Calls Tryd.prog 58 #[.int .i64 n] w fun e w' => e = .returned (.bool (isW n)) ∧ w = w' := by
  by_cases h : 0 ≤ n
  · by_cases h2 : n ≤ 16
    · have e : isW n = true := by simp [isW, h, h2]
      rw [e]
      clear e
      go_enter Tryd.func58, Tryd.ntmps58
      go_wp2
      go_ret
      exact ⟨by simp, rfl⟩
    · have e : isW n = false := by simp [isW, h2]
      rw [e]
      clear e
      go_enter Tryd.func58, Tryd.ntmps58
      go_wp2
      go_ret
      exact ⟨by simp, rfl⟩
  · have e : isW n = false := by simp [isW, h]
    rw [e]
    clear e
    have h' : n < 0 := by omega
    go_enter Tryd.func58, Tryd.ntmps58
    go_wp2
    go_ret
    exact ⟨rfl, rfl⟩

theorem bitAtN {w : World} {g : Nat} {l : List Int} {p : Nat} (h : Rdr 94 w g l p) :
    Calls Tryd.prog 30 #[.pointer (some ⟨g, 0, none⟩)] w fun e w' => e = .returned (.int .i64 p) ∧ w = w' := by
  obtain ⟨a, c, hh, _, _, _, _⟩ := h
  have h2 : w.cell? ⟨g, 1, none⟩ = some (.int .i64 p) := blk_cell hh 1
  clear hh
  go_enter Tryd.func30, Tryd.ntmps30
  go_wp2
  go_ret
  exact ⟨rfl, rfl⟩
theorem bitLeft {w : World} {g : Nat} {l : List Int} {p : Nat} (h : Rdr 94 w g l p) :
    Calls Tryd.prog 59 #[.pointer (some ⟨g, 0, none⟩)] w fun e w' => e = .returned (.int .i64 (8 * (l.length : Int) - p)) ∧ ∃ n, w' = w.drewN n := by
  obtain ⟨a, c, hh, hlc, hc, _, hp, _⟩ := h
  have h0 : w.cell? ⟨g, 0, none⟩ = some (.slice a l.length c) := blk_cell hh 0
  have h2 : w.cell? ⟨g, 1, none⟩ = some (.int .i64 p) := blk_cell hh 1
  have h1 : IntKind.i64.wrap (8 * (l.length : Int)) = 8 * (l.length : Int) := IntWalk.i64_in _ (by omega)
  have hs : IntKind.i64.wrap (8 * (l.length : Int) - p) = 8 * (l.length : Int) - p := IntWalk.i64_in _ (by omega)
  clear hh
  go_enter Tryd.func59, Tryd.ntmps59
  go_wp2
  go_quiet (fail)
  go_wp2
  go_ret
  exact ⟨rfl, _, rfl⟩
set_option maxHeartbeats 1000000 in
theorem bitTake {w : World} {g : Nat} {l : List Int} {p : Nat} (n : Int) (hn : -9223372036854775808 ≤ n ∧ n ≤ 9223372036854775807) (h : Rdr 94 w g l p) :
    Calls Tryd.prog 43 #[.pointer (some ⟨g, 0, none⟩), .int .i64 n] w fun e w' => e = .returned (.tuple #[.int .i64 (valT l p n), .int .i64 (errT l p n)]) ∧ Rdr 94 w' g l (posT l p n) ∧ Only g w w' := by
  have hw := fun W => bitWidth n W
  have HL := Lib.hid (bitLeft h)
  by_cases h1 : n < 0 ∨ 16 < n
  · obtain ⟨e1, e2, e3⟩ := t_arg (l := l) (p := p) h1
    rw [e1, e2, e3]
    have e4 : isW n = false := by unfold isW; simp; omega
    rw [e4] at hw
    have HW := Lib.hid hw; clear hw e1 e2 e3 e4 h1
    have HR := Lib.hid h; clear h
    go_enter Tryd.func43, Tryd.ntmps43
    go_wp2_with fail
    refine (HW.out _).mono ?_
    rintro e w' ⟨rfl, rfl⟩
    go_wp2_with fail
    go_ret2
    exact ⟨rfl, HR.out, only_refl _ _⟩
  · have e4 : isW n = true := by unfold isW; simp; omega
    rw [e4] at hw
    have HW := Lib.hid hw; clear hw e4
    by_cases h2 : 8 * (l.length : Int) - p < n
    · obtain ⟨e1, e2, e3⟩ := t_short (l := l) (p := p) (n := n) (by omega) h2
      rw [e1, e2, e3]
      clear e1 e2 e3
      have HR := Lib.hid h; clear h
      go_enter Tryd.func43, Tryd.ntmps43
      go_wp2_with fail
      refine (HW.out _).mono ?_
      rintro e w' ⟨rfl, rfl⟩
      go_wp2_with fail
      refine HL.out.mono ?_
      rintro e w' ⟨rfl, m, rfl⟩
      go_wp2_with fail
      go_ret2
      exact ⟨rfl, HR.out, only_drewN (only_refl _ _) _⟩
    · obtain ⟨m, rfl⟩ := Int.eq_ofNat_of_zero_le (show 0 ≤ n by omega)
      obtain ⟨a, c, hh, hlc, hc, hbs, hp, ha⟩ := h
      obtain ⟨e1, e2, e3⟩ := t_ok (l := l) (p := p) (m := m) (by omega) (by omega)
      rw [e1, e2, e3]
      have h0 : w.cell? ⟨g, 0, none⟩ = some (.slice a l.length c) := blk_cell hh 0
      have h1' : w.cell? ⟨g, 1, none⟩ = some (.int .i64 p) := blk_cell hh 1
      have hf := blk_free hh 1
      have hlt := blk_lt hh
      have HH := Lib.hid hh; clear hh e1 e2 e3
      have i1 : IntKind.i64.wrap ((p : Int) + m) = (p : Int) + m := IntWalk.i64_in _ (by omega)
      have i2 : (0 : Int) ≤ (p : Int) := by omega
      obtain ⟨F, hF⟩ : ∃ F : Nat, p / 8 = F := ⟨_, rfl⟩
      have i3 : (p : Int) / 8 = (F : Int) := by omega
      have i4 : 8 * F ≤ p := by omega
      have i5 : p < 8 * F + 8 := by omega
      have hd : decide (8 * (l.length : Int) - p < m) = false := by simp; omega
      have hm16 : m ≤ 16 := by omega
      have hpm : p + m ≤ 8 * l.length := by omega
      clear hF h1 h2 hn
      go_enter Tryd.func43, Tryd.ntmps43
      go_wp2_with fail
      refine (HW.out _).mono ?_
      rintro e w' ⟨rfl, rfl⟩
      go_wp2_with fail
      refine HL.out.mono ?_
      rintro e w' ⟨rfl, md, rfl⟩
      go_wp2_with fail
      go_quiet (fail)
      go_wp2_with fail
      go_loop [8, 9] (fun v i => ∃ k : Nat, k ≤ 3 ∧ i = .int .i64 ((F : Int) + k) ∧ v = .int .u64 (tk l (8 * F) (8 * k))) (fun _ i => (p + m + 8 - 8 * (intOf i)).toNat)
      case atStart => exact ⟨0, by omega, by simp, rfl⟩
      case round =>
        obtain ⟨k, hk, rfl, rfl⟩ := hrel
        by_cases hlt2 : 8 * (F + k) < p + m
        · obtain ⟨b, off, rfl, hbl, hc2⟩ := hbs.at_ (i := F + k) (by omega)
          have hx := hbs.1.at_ (F + k)
          have hs := tk_byte l hbs.1 F k
          have hbd := tk_bd l (8 * F) (8 * k)
          generalize l.getD (F + k) 0 = x at *
          have hz := or_step (tk l (8 * F) (8 * k)) x k (by omega) hbd hx
          rw [← hs] at hz
          have HZ := Lib.hid hz; clear hz hs
          have j0 : k ≤ 2 := by omega
          have j1 : (8 * ((F : Int) + k - F)).toNat = 8 * k := by omega
          have j2 : (0 : Int) ≤ (F : Int) + k := by omega
          have j3 : ((F : Int) + k).toNat = F + k := by omega
          have j4 : (F : Int) + k < l.length := by omega
          have j5 : 8 * ((F : Int) + k) < p + m := by omega
          go_wp2_with fail
          go_round
          case rel => exact ⟨k + 1, by omega, by omega, HZ.out⟩
          case measure => simp [intOf]; omega
        · obtain ⟨s, hs⟩ : ∃ s : Nat, p = 8 * F + s := ⟨p - 8 * F, by omega⟩
          have hcut := tk_cut l F s m (8 * k) (by omega)
          rw [← hs] at hcut
          have hbd := tk_bd l (8 * F) (8 * k)
          have hp24 := pow_mono2 (show 8 * k ≤ 24 by omega)
          have e24 : (2 : Int) ^ 24 = 16777216 := by decide
          have hwb : 0 ≤ tk l (8 * F) (8 * k) ∧ tk l (8 * F) (8 * k) < 16777216 := by omega
          clear hbd hp24 e24
          generalize tk l (8 * F) (8 * k) = v at *
          have j1 : ((p : Int) - 8 * F).toNat = s := by omega
          have j2 : (0 : Int) ≤ (p : Int) - 8 * F := by omega
          have j3 : ¬ 8 * ((F : Int) + k) < p + m := by omega
          have HCUT := Lib.hid hcut
          have HSS := Lib.hid hs
          clear hcut hs
          go_wp2_with fail
          go_ret2
          have hv2 : 0 ≤ v / 2 ^ s ∧ v / 2 ^ s < 16777216 := by
            have hps := pow_pos2 s
            refine ⟨Int.ediv_nonneg hwb.1 (by omega), ?_⟩
            have := Int.ediv_le_self (2 ^ s) hwb.1
            omega
          exact ⟨ret2 (take_val _ _ m hm16 hv2 HCUT.out) rfl, rdr_mk (w := w) (by simpa using blk_set (w := w.drewN (md + nq)) HH.out 1 (.int .i64 ((p : Int) + m))) hlc hc hbs ha (only_set (only_drewN (only_refl _ _) _) _ _) (Nat.le_of_lt hlt) hpm, only_set (only_drewN (only_refl _ _) _) _ _⟩

end Go.Proofs.YtdcpibglbanchaaDoor

set_option linter.unusedVariables false
set_option maxRecDepth 100000
namespace Go.Proofs.YtdcpibglbanchaaDoor
open Go.RowKit

theorem bitNext {w : World} {g : Nat} {l : List Int} {p : Nat} (h : Rdr 94 w g l p) :
    Calls Tryd.prog 60 #[.pointer (some ⟨g, 0, none⟩)] w fun e w' => e = .returned (.int .i64 (((p + 7) / 8 : Nat))) ∧ w = w' := by
  obtain ⟨a, c, hh, _, _, _, hp, _⟩ := h
  have h2 : w.cell? ⟨g, 1, none⟩ = some (.int .i64 p) := blk_cell hh 1
  clear hh
  go_enter Tryd.func60, Tryd.ntmps60
  go_wp2
  go_ret
  exact ⟨by simp, rfl⟩
def upT (p : Nat) : Nat := 8 * ((p + 7) / 8)
theorem bitAlign {w : World} {g : Nat} {l : List Int} {p : Nat} (h : Rdr 94 w g l p) :
    Calls Tryd.prog 44 #[.pointer (some ⟨g, 0, none⟩)] w fun e w' => e = .returned (.tuple #[]) ∧ Rdr 94 w' g l (upT p) ∧ Only g w w' := by
  have hn := bitNext h
  obtain ⟨a, c, hh, hlc, hc, hbs, hp, ha⟩ := h
  have h2 : w.cell? ⟨g, 1, none⟩ = some (.int .i64 p) := blk_cell hh 1
  have hf := blk_free hh 1
  have hlt := blk_lt hh
  have hset := blk_set hh 1 (.int .i64 (8 * (((p + 7) / 8 : Nat) : Int)))
  have hup : upT p ≤ 8 * l.length := by unfold upT; omega
  have hu : ((upT p : Nat) : Int) = 8 * (((p + 7) / 8 : Nat) : Int) := by unfold upT; omega
  have HN := Lib.hid hn; clear hn
  have HS := Lib.hid hset; clear hset hh
  have HU := Lib.hid hu; clear hu
  have hq : (p + 7) / 8 ≤ l.length := by omega
  generalize (p + 7) / 8 = q at *
  go_enter Tryd.func44, Tryd.ntmps44
  go_wp2_with fail
  refine HN.out.mono ?_
  rintro e w' ⟨rfl, rfl⟩
  go_wp2_with fail
  go_end0
  exact ⟨rfl, rdr_mk (w := w) (by rw [HU.out]; simpa using HS.out) hlc hc hbs ha (only_set (only_refl _ _) _ _) (Nat.le_of_lt hlt) hup, only_set (only_refl _ _) _ _⟩
end Go.Proofs.YtdcpibglbanchaaDoor

set_option linter.unusedVariables false
set_option maxRecDepth 100000
namespace Go.Proofs.YtdcpibglbanchaaDoor
open Go.RowKit

set_option maxHeartbeats 400000 in
theorem clone_any (a : Option Addr) (n c : Nat) (l : List Int) (hn : l.length = n) (hm : n ≤ 140737488355328) (w : World) (hb : Bs w w.heap.size a l) :
    Calls Tryd.prog 21 #[.slice a n c] w (Made w l) := by
  obtain ⟨i0, hi, hz0, hz1, hz2⟩ := info_parts u8_info
  cases a with
  | none =>
    have hl : l = [] := by
      rcases Nat.eq_zero_or_pos l.length with h | h
      · exact List.eq_nil_of_length_eq_zero h
      · obtain ⟨b, off, e, _⟩ := hb.2 h; cases e
    subst hl
    subst hn
    have hnil := fun W => Lib.run_eql_slice_nil (P := Tryd.prog) W 22 5 none 0 c 0 0 Tryd.underlying22
    go_enter Tryd.func21, Tryd.ntmps21
    go_wp2
    go_ret
    exact ⟨none, 0, rfl, World.ownsRow_nil _ _ _ _, Below.refl _ _⟩
  | some ad =>
    have hcells : ∀ j u, (l.map (Value.int .u8))[j]? = some u → (w.alloc (.cells #[] 5)).cell? (ad.add j) = some u := by
      intro j u hu
      have hj : j < l.length := by
        rcases Nat.lt_or_ge j l.length with h | h
        · exact h
        · rw [List.getElem?_eq_none (by simpa using h)] at hu; cases hu
      obtain ⟨b, off, e, hbl, hc⟩ := hb.at_ hj
      injection e with e
      subst e
      have e2 : (⟨b, off, none⟩ : Addr).add j = ⟨b, off + j, none⟩ := by unfold Addr.add; split <;> simp_all
      rw [e2, World.cell?_alloc_lt _ _ _ hbl, hc, ← hu]
      simp [List.getD_eq_getElem?_getD, hj]
    have HC := Lib.hid hcells; clear hcells
    have hnil := fun W => Lib.run_eql_slice_nil (P := Tryd.prog) W 22 5 (some ad) n c 0 0 Tryd.underlying22
    go_enter Tryd.func21, Tryd.ntmps21
    go_wp2_with (at_builtin; refine wpList_append_own _ rfl _ _ 22 rfl w.heap.size 5 i0 (.int .u8 0) 1 1 Tryd.underlying22 hi hz0 hz1 hz2 rfl (by decide) _ 0 [] rfl (World.ownsRow_lit w #[] 0 (Nat.le_refl _) (by decide) rfl) ad n c (l.map (Value.int .u8)) rfl (by simp [hn]) HC.out ?c2 ?c3 ?c4 ?c5 ?_)
    case c2 => intro u hu; obtain ⟨x, _, rfl⟩ := List.mem_map.1 hu; rfl
    case c3 => simp only [maxLen]; omega
    case c4 => omega
    case c5 => simp
    intro v' w1 hown1 hg1 _
    have hb1 : Below w.heap.size w w1 := ((Below.refl w.heap.size w).alloc (Nat.le_refl _) _).grown hg1 (by simp) (fun k hk => by simp [Value.ownBlock] at hk; omega)
    obtain ⟨a2, c2, rfl⟩ := own_shape hown1
    clear hg1
    go_wp2
    go_ret
    exact ⟨a2, c2, by rw [hn]; rfl, own_cast hown1 hn.symm rfl, hb1⟩
end Go.Proofs.YtdcpibglbanchaaDoor

set_option linter.unusedVariables false
set_option maxRecDepth 100000
namespace Go.Proofs.YtdcpibglbanchaaDoor
open Go.RowKit

/-- what New has made, with the row that the reader goes through -/
def NewBit (w : World) (l : List Int) (e : Ending) (w' : World) : Prop := ∃ g a c, e = .returned (.pointer (some ⟨g, 0, none⟩)) ∧ w.heap.size ≤ g ∧
  w'.heap[g]? = some (.cells #[.slice a l.length c, .int .i64 0] 94 (0, 0)) ∧ w'.ownsRow w.heap.size 5 1 (.slice a l.length c) l.length (l.map (Value.int .u8)) ∧ (∀ k, (Value.slice a l.length c).ownBlock = some k → k < g) ∧ Below w.heap.size w w'
theorem bitNew (a : Option Addr) (n c : Nat) (l : List Int) (hn : l.length = n) (hm : n ≤ 140737488355328) (w : World) (hb : Bs w w.heap.size a l) :
    Calls Tryd.prog 28 #[.slice a n c] w (NewBit w l) := by
  have HC := Lib.hid (clone_any a n c l hn hm w hb)
  subst hn
  go_enter Tryd.func28, Tryd.ntmps28
  go_wp2_with fail
  refine HC.out.mono ?_
  rintro e w1 ⟨a1, c1, rfl, hown, hbel⟩
  go_wp2_with fail
  go_ret
  exact ⟨w1.heap.size, a1, c1, rfl, hbel.size, by simpa using heap_alloc_new w1 (.cells #[.slice a1 l.length c1, .int .i64 0] 94), hown.alloc _, fun k e => (hown.lt k e).2, hbel.alloc hbel.size _⟩
theorem rdr_of_row {T : TypeId} {w : World} {base g : Nat} {t : TypeId} {a : Option Addr} {c : Nat} {l : List Int} {p : Nat} (hh : w.heap[g]? = some (.cells #[.slice a l.length c, .int .i64 p] T (0, 0))) (ho : w.ownsRow base t 1 (.slice a l.length c) l.length (l.map (Value.int .u8))) (hl : Bytes l) (hm : l.length ≤ 140737488355328)
    (hlt : ∀ k, (Value.slice a l.length c).ownBlock = some k → k < g) (hp : p ≤ 8 * l.length) : Rdr T w g l p :=
  ⟨a, c, hh, (own_cap ho).1, hm, bs_under ho hl hlt, hp, own_none ho⟩
end Go.Proofs.YtdcpibglbanchaaDoor

set_option linter.unusedVariables false
set_option maxRecDepth 100000
namespace Go.Proofs.YtdcpibglbanchaaDoor
open Go.RowKit

def okB (l : List Int) (p : Nat) (n : Int) : Bool := decide (0 ≤ n ∧ n ≤ (l.length : Int) - ((p + 7) / 8 : Nat))
def errB (l : List Int) (p : Nat) (n : Int) : Int := if n < 0 then 1 else if (l.length : Int) - ((p + 7) / 8 : Nat) < n then 2 else 0
def bytesB (l : List Int) (p : Nat) (n : Int) : List Int := if okB l p n then cutOf l ((p + 7) / 8) ((p + 7) / 8 + n.toNat) else []
def posB (l : List Int) (p : Nat) (n : Int) : Nat := if okB l p n then 8 * ((p + 7) / 8 + n.toNat) else p
theorem b_arg {l : List Int} {p : Nat} {n : Int} (h : n < 0) : errB l p n = 1 ∧ bytesB l p n = [] ∧ posB l p n = p := by
  have h1 : okB l p n = false := by unfold okB; simp; omega
  simp [errB, bytesB, posB, h1, h]
theorem b_short {l : List Int} {p : Nat} {n : Int} (h : 0 ≤ n) (h2 : (l.length : Int) - ((p + 7) / 8 : Nat) < n) : errB l p n = 2 ∧ bytesB l p n = [] ∧ posB l p n = p := by
  have h1 : okB l p n = false := by unfold okB; simp; omega
  have h3 : ¬ n < 0 := by omega
  refine ⟨?_, by simp [bytesB, h1], by simp [posB, h1]⟩
  unfold errB; rw [if_neg h3, if_pos h2]
theorem b_ok {l : List Int} {p m : Nat} (h2 : (p + 7) / 8 + m ≤ l.length) : errB l p m = 0 ∧ bytesB l p m = cutOf l ((p + 7) / 8) ((p + 7) / 8 + m) ∧ posB l p m = 8 * ((p + 7) / 8 + m) := by
  have h1 : okB l p m = true := by unfold okB; simp; omega
  have h3 : ¬ (m : Int) < 0 := by omega
  have h4 : ¬ ((l.length : Int) - ((p + 7) / 8 : Nat) < m) := by omega
  refine ⟨?_, by simp [bytesB, h1], by simp [posB, h1]⟩
  unfold errB; rw [if_neg h3, if_neg h4]
/-- a call has made a slice of its own that holds the bytes l, beside an error's number, and turned only block g beside -/
def MadeE (g : Nat) (w : World) (l : List Int) (er : Int) (e : Ending) (w' : World) : Prop :=
  ∃ a c, e = .returned (.tuple #[.slice a l.length c, .int .i64 er]) ∧ l.length ≤ c ∧ (a = none → c = 0) ∧ Bs w' w'.heap.size a l ∧ Only g w w'

set_option maxHeartbeats 1000000 in
theorem bitBytes {w : World} {g : Nat} {l : List Int} {p : Nat} (n : Int) (hn : -9223372036854775808 ≤ n ∧ n ≤ 9223372036854775807) (h : Rdr 94 w g l p) :
    Calls Tryd.prog 46 #[.pointer (some ⟨g, 0, none⟩), .int .i64 n] w fun e w' => MadeE g w (bytesB l p n) (errB l p n) e w' ∧ Rdr 94 w' g l (posB l p n) := by
  have HN := Lib.hid (bitNext h)
  by_cases h1 : n < 0
  · obtain ⟨e1, e2, e3⟩ := b_arg (l := l) (p := p) h1
    rw [e1, e2, e3]
    have HR := Lib.hid h; clear h e1 e2 e3
    go_enter Tryd.func46, Tryd.ntmps46
    go_wp2_with fail
    go_ret2
    exact ⟨⟨none, 0, rfl, Nat.le_refl _, fun _ => rfl, Bs.nil_ _ _ _, only_refl _ _⟩, HR.out⟩
  · have h' := h
    obtain ⟨a, c, hh, hlc, hc, hbs, hp, ha⟩ := h
    have h0 : w.cell? ⟨g, 0, none⟩ = some (.slice a l.length c) := blk_cell hh 0
    have h1' : w.cell? ⟨g, 1, none⟩ = some (.int .i64 p) := blk_cell hh 1
    have hf := blk_free hh 1
    have hlt := blk_lt hh
    obtain ⟨q, hq⟩ : ∃ q, (p + 7) / 8 = q := ⟨_, rfl⟩
    have hN := HN.out
    rw [hq] at hN
    have HN2 := Lib.hid hN; clear hN HN
    have hql : q ≤ l.length := by omega
    by_cases h2 : (l.length : Int) - q < n
    · obtain ⟨e1, e2, e3⟩ := b_short (l := l) (p := p) (n := n) (by omega) (by rw [hq]; exact h2)
      rw [e1, e2, e3]
      have HR := Lib.hid h'; clear h' e1 e2 e3 hh hq ha
      go_enter Tryd.func46, Tryd.ntmps46
      go_wp2_with fail
      refine HN2.out.mono ?_
      rintro e w' ⟨rfl, rfl⟩
      go_wp2_with fail
      go_ret2
      exact ⟨⟨none, 0, rfl, Nat.le_refl _, fun _ => rfl, Bs.nil_ _ _ _, only_refl _ _⟩, HR.out⟩
    · obtain ⟨m, rfl⟩ := Int.eq_ofNat_of_zero_le (show 0 ≤ n by omega)
      obtain ⟨e1, e2, e3⟩ := b_ok (l := l) (p := p) (m := m) (by omega)
      rw [hq] at e2 e3
      rw [e1, e2, e3]
      obtain ⟨a3, c3, r3, r3', b3, hc3, hc3', n3⟩ := cut_lh a l.length c l rfl hlc ha q (q + m) (by omega) (by omega)
      have em : q + m - q = m := by omega
      rw [em] at r3 r3' hc3 n3
      have hcut : (cutOf l q (q + m)).length = m := by rw [cutOf_len (by omega)]; omega
      have hcb : Bytes (cutOf l q (q + m)) := cutOf_bytes hbs.1 _ _
      have hset := blk_set hh 1 (.int .i64 (8 * ((q : Int) + m)))
      have hbs2 : Bs (w.setCell ⟨g, 1, none⟩ (.int .i64 (8 * ((q : Int) + m)))) (w.setCell ⟨g, 1, none⟩ (.int .i64 (8 * ((q : Int) + m)))).heap.size a3 (cutOf l q (q + m)) := ((b3 _ _ hbs).setCell (Nat.le_refl _) _).more (by simp [World.setCell]; omega)
      have HCL := Lib.hid (clone_any a3 m c3 _ hcut (by omega) _ hbs2)
      have HS := Lib.hid hset
      have HLEN := Lib.hid hcut
      have HA := Lib.hid ha
      have hd2 : (q : Int) + m ≤ 9223372036854775807 := by omega
      have hd3 : ((q + m : Nat) : Int) = (q : Int) + m := by omega
      have hd4 : ((q : Int) + m) * 8 ≤ 9223372036854775807 := by omega
      rw [hd3] at r3 r3'
      clear e1 e2 e3 hset hbs2 hh h' hq em hcut ha h1 b3 n3 hd3
      go_enter Tryd.func46, Tryd.ntmps46
      go_wp2_with fail
      refine HN2.out.mono ?_
      rintro e w' ⟨rfl, rfl⟩
      go_wp2_with fail
      refine HCL.out.mono ?_
      rintro e w2 ⟨a4, c4, rfl, hown, hbel⟩
      have hB4 := Bs.of_own hown hcb
      have hcap := own_cap hown
      have hnone4 : a4 = none → c4 = 0 := fun h => (own_none hown h).2
      have hg2 : g < (w.setCell ⟨g, 1, none⟩ (.int .i64 (8 * ((q : Int) + m)))).heap.size := blk_lt HS.out
      have hin : w2.heap[g]? = some (.cells #[.slice a l.length c, .int .i64 (8 * ((q : Int) + m))] 94 (0, 0)) := (hbel.block g hg2).trans (by simpa using HS.out)
      have ho : Only g w w2 := only_trans (only_set (only_refl _ _) _ _) (below_only hbel)
      have HO := Lib.hid (And.intro hin ho)
      clear hown hbel hin ho r3 r3'
      go_wp2_with fail
      go_ret2
      exact ⟨⟨a4, c4, rfl, hcap.1, hnone4, hB4, HO.out.2⟩, rdr_mk (w := w) (by have := HO.out.1; simpa using this) hlc hc hbs HA.out HO.out.2 (Nat.le_of_lt hlt) (by omega)⟩

end Go.Proofs.YtdcpibglbanchaaDoor

set_option linter.unusedVariables false
set_option maxRecDepth 100000
namespace Go.Proofs.YtdcpibglbanchaaDoor
open Go.RowKit

/-- the slice that begins at A holds these cells -/
def Src (w : World) (A : Option Addr) (news : List Value) : Prop := 0 < news.length → ∃ b off, A = some ⟨b, off, none⟩ ∧ ∀ j, j < news.length → w.cell? ⟨b, off + j, none⟩ = news[j]?
theorem src_one (w : World) (x : Value) (t : TypeId) : Src (w.alloc (.cells #[x] t)) (some ⟨w.heap.size, 0, none⟩) [x] := fun _ => ⟨w.heap.size, 0, rfl, fun j hj => by
  have hj0 : j = 0 := by simpa using hj
  subst hj0
  rw [blk_cell (heap_alloc_new w _)]; rfl⟩
theorem src_bytes {w : World} {B : Nat} {A : Option Addr} {l : List Int} (h : Bs w B A l) : Src w A (l.map (Value.int .u8)) := fun hp => by
  rw [List.length_map] at hp
  obtain ⟨b, off, e, _, hc⟩ := h.2 hp
  refine ⟨b, off, e, fun j hj => ?_⟩
  rw [List.length_map] at hj
  rw [hc j hj, List.getElem?_map, List.getD_eq_getElem?_getD, List.getElem?_eq_getElem hj]; rfl
theorem run_appG (T E ty : TypeId) (z : Value) (bytes : Nat) (hT : Tryd.prog.underlying T = some (.slice E)) (hinf : (Tryd.prog.info? E).map (fun i => (i.zero, i.size, i.bytes)) = some (some z, 1, bytes)) (hz : z.cells.size = 1)
    (w : World) (base : Nat) (v : Value) (n : Nat) (xs : List Value) (hown : w.ownsRow base E 1 v n xs) (A : Option Addr) (m c : Nat) (news : List Value) (hm : news.length = m) (hs : Src w A news) (h1 : ∀ u ∈ news, u.oneCell' = true) (hA : A = none → m = 0 ∧ c = 0)
    (h63 : n + m ≤ maxLen) (hbound : (n + m) * bytes ≤ 140737488355328) (hbase : base ≤ w.heap.size) :
    ∃ v' w', (Builtin.append_ #[T, T] ty #[v, .slice A m c]).run Tryd.prog w = .ok v' w' ∧ w'.ownsRow base E 1 v' (n + m) (xs ++ news) ∧ w.grownBy w' v.ownBlock ∧ (v'.ownBlock = v.ownBlock ∨ v'.ownBlock = some w.heap.size) := by
  obtain ⟨i0, hi, hz0, hz1, hz2⟩ := info_parts hinf
  cases A with
  | none =>
    obtain ⟨q1, q2⟩ := hA rfl
    subst q1; subst q2
    have hl : news = [] := List.eq_nil_of_length_eq_zero hm
    subst hl
    exact ⟨v, w, run_append_owned_none (P := Tryd.prog) (w := w) base T ty E i0 1 hT hi v n _ hown, by simpa using hown, World.grownBy.refl w _, .inl rfl⟩
  | some ad =>
    obtain ⟨v', w', hr, h2, h3, _, h4⟩ := run_append_own_at (P := Tryd.prog) w base T ty E i0 z 1 bytes hT hi hz0 hz1 hz2 hz (by decide) v n _ hown ad m c news (by simp [hm]) (by
      intro j u hu
      have hj : j < news.length := by
        rcases Nat.lt_or_ge j news.length with h | h
        · exact h
        · rw [List.getElem?_eq_none h] at hu; cases hu
      obtain ⟨b, off, e, hc⟩ := hs (by omega)
      injection e with e
      subst e
      have e2 : (⟨b, off, none⟩ : Addr).add j = ⟨b, off + j, none⟩ := by unfold Addr.add; split <;> simp_all
      rw [e2, hc j hj, hu]) h1 h63 hbound hbase
    exact ⟨v', w', hr, h2, h3, h4⟩
theorem wpList_appG (T E : TypeId) (z : Value) (bytes : Nat) (hT : Tryd.prog.underlying T = some (.slice E)) (hinf : (Tryd.prog.info? E).map (fun i => (i.zero, i.size, i.bytes)) = some (some z, 1, bytes)) (hz : z.cells.size = 1)
    {w : World} {ops : Array Oper} {rest : List Oper} {o : Oper} {a : Act} {Q : Exit → Act → World → Prop} (hgd : o.guard = none) (s x : Operand)
    (ho : o.op = .call { callee := .builtin .append, args := #[s, x], argTypes := #[T, T] }) (base : Nat) (v : Value) (n : Nat) (xs : List Value) (hs : a.eval s = v)
    (hown : w.ownsRow base E 1 v n xs) (A : Option Addr) (m c : Nat) (news : List Value) (hx : a.eval x = .slice A m c) (hm : news.length = m) (hsrc : Src w A news) (h1 : ∀ u ∈ news, u.oneCell' = true) (hA : A = none → m = 0 ∧ c = 0)
    (h63 : n + m ≤ maxLen) (hbound : (n + m) * bytes ≤ 140737488355328) (hbase : base ≤ w.heap.size)
    (h : ∀ v' w', w'.ownsRow base E 1 v' (n + m) (xs ++ news) → w.grownBy w' v.ownBlock → (v'.ownBlock = v.ownBlock ∨ v'.ownBlock = some w.heap.size) → wpList Tryd.prog ops Q rest (a.put o.dst v') w') : wpList Tryd.prog ops Q (o :: rest) a w :=
  wpList_plain hgd fun _ hK => by
    obtain ⟨v', w', hr, h2, h3, h4⟩ := run_appG T E o.type z bytes hT hinf hz w base v n xs hown A m c news hm hsrc h1 hA h63 hbound hbase
    unfold Oper.wp execOp
    simp only [ho, resolve, invoke, builtin, Sem.run_bind, Sem.run_pure, Result.andThen_ok, List.map_toArray, List.map_cons, List.map_nil, hs, hx, hr]
    exact hK _ _ (h v' w' h2 h3 h4)
theorem bytes_one {l : List Int} : ∀ u ∈ l.map (Value.int .u8), u.oneCell' = true := by intro u hu; obtain ⟨x, _, rfl⟩ := List.mem_map.1 hu; rfl
theorem wpList_app2 {w : World} {ops : Array Oper} {rest : List Oper} {o : Oper} {a : Act} {Q : Exit → Act → World → Prop} (hgd : o.guard = none) (s x : Operand)
    (ho : o.op = .call { callee := .builtin .append, args := #[s, x], argTypes := #[22, 22] }) (base : Nat) (v : Value) (n : Nat) (l : List Int) (hs : a.eval s = v)
    (hown : w.ownsRow base 5 1 v n (l.map (Value.int .u8))) (B : Nat) (A : Option Addr) (m c : Nat) (l2 : List Int) (hx : a.eval x = .slice A m c) (hm : l2.length = m) (hb : Bs w B A l2) (hA : A = none → m = 0 ∧ c = 0)
    (hbound : n + m ≤ 140737488355328) (hbase : base ≤ w.heap.size)
    (h : ∀ v' w', w'.ownsRow base 5 1 v' (n + m) ((l ++ l2).map (Value.int .u8)) → w.grownBy w' v.ownBlock → (v'.ownBlock = v.ownBlock ∨ v'.ownBlock = some w.heap.size) → wpList Tryd.prog ops Q rest (a.put o.dst v') w') : wpList Tryd.prog ops Q (o :: rest) a w :=
  wpList_appG 22 5 (.int .u8 0) 1 Tryd.underlying22 u8_info rfl hgd s x ho base v n _ hs hown A m c _ hx (by simpa using hm) (src_bytes hb) bytes_one hA (by simp only [maxLen]; omega) (by omega) hbase
    (fun v' w' h2 h3 h4 => h v' w' (by rw [List.map_append]; exact h2) h3 h4)
end Go.Proofs.YtdcpibglbanchaaDoor
