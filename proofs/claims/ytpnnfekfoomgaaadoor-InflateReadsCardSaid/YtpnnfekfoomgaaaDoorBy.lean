/- What the readers do with rows of bytes: contracts of Bytes of package bits and of the document. Condition: the numbers fit their kinds. -/
import Derived.Test.YtpnnfekfoomgaaaDoorRdA
import Derived.Test.YtpnnfekfoomgaaaDoorNewB
import Derived.Deep.DeepCutAuto
set_option linter.unusedVariables false
set_option maxRecDepth 100000
namespace Go.Proofs.YtpnnfekfoomgaaaDoor
open Go.RowKit

def okB (l : List Int) (p : Nat) (n : Int) : Bool := decide (0 ≤ n ∧ n ≤ (l.length : Int) - ((p + 7) / 8 : Nat))
def errB (l : List Int) (p : Nat) (n : Int) : Int := if n < 0 then 1 else if (l.length : Int) - ((p + 7) / 8 : Nat) < n then 2 else 0
def bytesB (l : List Int) (p : Nat) (n : Int) : List Int := if okB l p n then cutOf l ((p + 7) / 8) ((p + 7) / 8 + n.toNat) else []
def posB (l : List Int) (p : Nat) (n : Int) : Nat := if okB l p n then 8 * ((p + 7) / 8 + n.toNat) else p
theorem b_arg {l : List Int} {p : Nat} {n : Int} (h : n < 0) : errB l p n = 1 ∧ bytesB l p n = [] ∧ posB l p n = p := by
  have h1 : okB l p n = false := by unfold okB; simp; omega
  simp [errB, bytesB, posB, h1, h]
theorem b_short {l : List Int} {p : Nat} {n : Int} (h : 0 ≤ n) (h2 : (l.length : Int) - ((p + 7) / 8 : Nat) < n) : errB l p n = 2 ∧ bytesB l p n = [] ∧ posB l p n = p := by
  have h1 : okB l p n = false := by unfold okB; simp; omega
  have h3 : ¬ n < 0 := by omega
  refine ⟨?_, by simp [bytesB, h1], by simp [posB, h1]⟩
  unfold errB; rw [if_neg h3, if_pos h2]
theorem b_ok {l : List Int} {p m : Nat} (h2 : (p + 7) / 8 + m ≤ l.length) : errB l p m = 0 ∧ bytesB l p m = cutOf l ((p + 7) / 8) ((p + 7) / 8 + m) ∧ posB l p m = 8 * ((p + 7) / 8 + m) := by
  have h1 : okB l p m = true := by unfold okB; simp; omega
  have h3 : ¬ (m : Int) < 0 := by omega
  have h4 : ¬ ((l.length : Int) - ((p + 7) / 8 : Nat) < m) := by omega
  refine ⟨?_, by simp [bytesB, h1], by simp [posB, h1]⟩
  unfold errB; rw [if_neg h3, if_neg h4]
/-- a call has made a slice of its own that holds the bytes l, beside an error's number, and turned only block g beside -/
def MadeE (g : Nat) (w : World) (l : List Int) (er : Int) (e : Ending) (w' : World) : Prop :=
  ∃ a c, e = .returned (.tuple #[.slice a l.length c, .int .i64 er]) ∧ l.length ≤ c ∧ (a = none → c = 0) ∧ Bs w' w'.heap.size a l ∧ Only g w w'

set_option maxHeartbeats 1000000 in
theorem bitBytes {w : World} {g : Nat} {l : List Int} {p : Nat} (n : Int) (hn : -9223372036854775808 ≤ n ∧ n ≤ 9223372036854775807) (h : Rdr 81 w g l p) :
    Calls Tryd.prog 56 #[.pointer (some ⟨g, 0, none⟩), .int .i64 n] w fun e w' => MadeE g w (bytesB l p n) (errB l p n) e w' ∧ Rdr 81 w' g l (posB l p n) := by
  have HN := Lib.hid (bitNext h)
  by_cases h1 : n < 0
  · obtain ⟨e1, e2, e3⟩ := b_arg (l := l) (p := p) h1
    rw [e1, e2, e3]
    have HR := Lib.hid h; clear h e1 e2 e3
    go_enter Tryd.func56, Tryd.ntmps56
    go_wp2_with fail
    go_ret2
    exact ⟨⟨none, 0, rfl, Nat.le_refl _, fun _ => rfl, Bs.nil_ _ _ _, only_refl _ _⟩, HR.out⟩
  · have h' := h
    obtain ⟨a, c, hh, hlc, hc, hbs, hp, ha⟩ := h
    have h0 : w.cell? ⟨g, 0, none⟩ = some (.slice a l.length c) := blk_cell hh 0
    have h1' : w.cell? ⟨g, 1, none⟩ = some (.int .i64 p) := blk_cell hh 1
    have hf := blk_free hh 1
    have hlt := blk_lt hh
    obtain ⟨q, hq⟩ : ∃ q, (p + 7) / 8 = q := ⟨_, rfl⟩
    have hN := HN.out
    rw [hq] at hN
    have HN2 := Lib.hid hN; clear hN HN
    have hql : q ≤ l.length := by omega
    by_cases h2 : (l.length : Int) - q < n
    · obtain ⟨e1, e2, e3⟩ := b_short (l := l) (p := p) (n := n) (by omega) (by rw [hq]; exact h2)
      rw [e1, e2, e3]
      have HR := Lib.hid h'; clear h' e1 e2 e3 hh hq ha
      go_enter Tryd.func56, Tryd.ntmps56
      go_wp2_with fail
      refine HN2.out.mono ?_
      rintro e w' ⟨rfl, rfl⟩
      go_wp2_with fail
      go_ret2
      exact ⟨⟨none, 0, rfl, Nat.le_refl _, fun _ => rfl, Bs.nil_ _ _ _, only_refl _ _⟩, HR.out⟩
    · obtain ⟨m, rfl⟩ := Int.eq_ofNat_of_zero_le (show 0 ≤ n by omega)
      obtain ⟨e1, e2, e3⟩ := b_ok (l := l) (p := p) (m := m) (by omega)
      rw [hq] at e2 e3
      rw [e1, e2, e3]
      obtain ⟨a3, c3, r3, r3', b3, hc3, hc3', n3⟩ := cut_lh a l.length c l rfl hlc ha q (q + m) (by omega) (by omega)
      have em : q + m - q = m := by omega
      rw [em] at r3 r3' hc3 n3
      have hcut : (cutOf l q (q + m)).length = m := by rw [cutOf_len (by omega)]; omega
      have hcb : Bytes (cutOf l q (q + m)) := cutOf_bytes hbs.1 _ _
      have hset := blk_set hh 1 (.int .i64 (8 * ((q : Int) + m)))
      have hbs2 : Bs (w.setCell ⟨g, 1, none⟩ (.int .i64 (8 * ((q : Int) + m)))) (w.setCell ⟨g, 1, none⟩ (.int .i64 (8 * ((q : Int) + m)))).heap.size a3 (cutOf l q (q + m)) := ((b3 _ _ hbs).setCell (Nat.le_refl _) _).more (by simp [World.setCell]; omega)
      have HCL := Lib.hid (clone_any a3 m c3 _ hcut (by omega) _ hbs2)
      have HS := Lib.hid hset
      have HLEN := Lib.hid hcut
      have HA := Lib.hid ha
      have hd2 : (q : Int) + m ≤ 9223372036854775807 := by omega
      have hd3 : ((q + m : Nat) : Int) = (q : Int) + m := by omega
      have hd4 : ((q : Int) + m) * 8 ≤ 9223372036854775807 := by omega
      rw [hd3] at r3 r3'
      clear e1 e2 e3 hset hbs2 hh h' hq em hcut ha h1 b3 n3 hd3
      go_enter Tryd.func56, Tryd.ntmps56
      go_wp2_with fail
      refine HN2.out.mono ?_
      rintro e w' ⟨rfl, rfl⟩
      go_wp2_with fail
      refine HCL.out.mono ?_
      rintro e w2 ⟨a4, c4, rfl, hown, hbel⟩
      have hB4 := Bs.of_own hown hcb
      have hcap := own_cap hown
      have hnone4 : a4 = none → c4 = 0 := fun h => (own_none hown h).2
      have hg2 : g < (w.setCell ⟨g, 1, none⟩ (.int .i64 (8 * ((q : Int) + m)))).heap.size := blk_lt HS.out
      have hin : w2.heap[g]? = some (.cells #[.slice a l.length c, .int .i64 (8 * ((q : Int) + m))] 81 (0, 0)) := (hbel.block g hg2).trans (by simpa using HS.out)
      have ho : Only g w w2 := only_trans (only_set (only_refl _ _) _ _) (below_only hbel)
      have HO := Lib.hid (And.intro hin ho)
      clear hown hbel hin ho r3 r3'
      go_wp2_with fail
      go_ret2
      exact ⟨⟨a4, c4, rfl, hcap.1, hnone4, hB4, HO.out.2⟩, rdr_mk (w := w) (by have := HO.out.1; simpa using this) hlc hc hbs HA.out HO.out.2 (Nat.le_of_lt hlt) (by omega)⟩

set_option maxHeartbeats 1000000 in
theorem refBytes {w : World} {g : Nat} {l : List Int} {p : Nat} (n : Int) (hn : -9223372036854775808 ≤ n ∧ n ≤ 9223372036854775807) (h : Rdr 53 w g l p) :
    Calls Tryd.prog 23 #[.pointer (some ⟨g, 0, none⟩), .int .i64 n] w fun e w' => MadeE g w (bytesB l p n) (errB l p n) e w' ∧ Rdr 53 w' g l (posB l p n) := by
  by_cases h1 : n < 0
  · obtain ⟨e1, e2, e3⟩ := b_arg (l := l) (p := p) h1
    rw [e1, e2, e3]
    have HR := Lib.hid h; clear h e1 e2 e3
    go_enter Tryd.func23, Tryd.ntmps23
    go_wp2_with fail
    go_ret2
    exact ⟨⟨none, 0, rfl, Nat.le_refl _, fun _ => rfl, Bs.nil_ _ _ _, only_refl _ _⟩, HR.out⟩
  · have h' := h
    obtain ⟨a, c, hh, hlc, hc, hbs, hp, ha⟩ := h
    have h0 : w.cell? ⟨g, 0, none⟩ = some (.slice a l.length c) := blk_cell hh 0
    have h1' : w.cell? ⟨g, 1, none⟩ = some (.int .i64 p) := blk_cell hh 1
    have hf := blk_free hh 1
    have hlt := blk_lt hh
    obtain ⟨q, hq⟩ : ∃ q, (p + 7) / 8 = q := ⟨_, rfl⟩
    have hqq : ((p : Int) + 7) / 8 = (q : Int) := by omega
    have hql : q ≤ l.length := by omega
    by_cases h2 : (l.length : Int) - q < n
    · obtain ⟨e1, e2, e3⟩ := b_short (l := l) (p := p) (n := n) (by omega) (by rw [hq]; exact h2)
      rw [e1, e2, e3]
      have HR := Lib.hid h'; clear h' e1 e2 e3 hh hq ha
      go_enter Tryd.func23, Tryd.ntmps23
      go_wp2_with fail
      go_ret2
      exact ⟨⟨none, 0, rfl, Nat.le_refl _, fun _ => rfl, Bs.nil_ _ _ _, only_refl _ _⟩, HR.out⟩
    · obtain ⟨m, rfl⟩ := Int.eq_ofNat_of_zero_le (show 0 ≤ n by omega)
      obtain ⟨e1, e2, e3⟩ := b_ok (l := l) (p := p) (m := m) (by omega)
      rw [hq] at e2 e3
      rw [e1, e2, e3]
      obtain ⟨a3, c3, r3, r3', b3, hc3, hc3', n3⟩ := cut_lh a l.length c l rfl hlc ha q (q + m) (by omega) (by omega)
      have em : q + m - q = m := by omega
      rw [em] at r3 r3' hc3 n3
      have hcut : (cutOf l q (q + m)).length = m := by rw [cutOf_len (by omega)]; omega
      have hcb : Bytes (cutOf l q (q + m)) := cutOf_bytes hbs.1 _ _
      have hset := blk_set hh 1 (.int .i64 (8 * ((q : Int) + m)))
      obtain ⟨wa, hwa⟩ : ∃ wa, w.setCell ⟨g, 1, none⟩ (.int .i64 (8 * ((q : Int) + m))) = wa := ⟨_, rfl⟩
      have hbs2 : Bs wa g a3 (cutOf l q (q + m)) := by rw [← hwa]; exact (b3 _ _ hbs).setCell (Nat.le_refl _) _
      have hoa : Only g w wa := by rw [← hwa]; exact only_set (only_refl _ _) _ _
      rw [hwa] at hset
      have k0 : wa.cell? ⟨g, 0, none⟩ = some (.slice a l.length c) := blk_cell hset 0
      have hga := blk_lt hset
      have HS := Lib.hid hset
      have HLEN := Lib.hid hcut
      have HA := Lib.hid ha
      have HOA := Lib.hid hoa
      have HN3 := Lib.hid n3
      have hd2 : (q : Int) + m ≤ 9223372036854775807 := by omega
      have hd3 : ((q + m : Nat) : Int) = (q : Int) + m := by omega
      have hd4 : ((q : Int) + m) * 8 ≤ 9223372036854775807 := by omega
      rw [hd3] at r3 r3'
      clear e1 e2 e3 hset hh h' hq em hcut ha h1 b3 n3 hd3 hoa
      have HWA := Lib.hid hwa; clear hwa
      go_enter Tryd.func23, Tryd.ntmps23
      go_upto_region 7 with (fail)
      rw [HWA.out]
      clear h0 h1' hf HWA
      go_wp2_with (at_builtin; refine wpList_app rfl (.tmp 31) (.tmp 40) rfl wa.heap.size (.slice (some ⟨wa.heap.size, 0, none⟩) 0 0) 0 [] rfl (World.ownsRow_lit wa #[] 0 (Nat.le_refl _) (by decide) rfl) g a3 m c3 (cutOf l q (q + m)) rfl HLEN.out (hbs2.alloc (Nat.le_of_lt hga) _) HN3.out (by omega) (by simp) ?_; intro v1 w1 hown1 hg1)
      obtain ⟨a4, c4, rfl⟩ := own_shape hown1
      have hb1 : Below wa.heap.size wa w1 := ((Below.refl wa.heap.size wa).alloc (Nat.le_refl _) _).grown hg1 (by simp) (fun k hk => by simp [Value.ownBlock] at hk; omega)
      have hown2 := own_cast (n' := (cutOf l q (q + m)).length) (ys := (cutOf l q (q + m)).map (Value.int .u8)) hown1 (by rw [HLEN.out]; omega) (by simp)
      have hB4 := Bs.of_own hown2 hcb
      have hcap := own_cap hown2
      have hnone4 : a4 = none → c4 = 0 := fun h => (own_none hown2 h).2
      have hin : w1.heap[g]? = some (.cells #[.slice a l.length c, .int .i64 (8 * ((q : Int) + m))] 53 (0, 0)) := (hb1.block g hga).trans (by simpa using HS.out)
      have ho : Only g w w1 := only_trans HOA.out (below_only hb1)
      have HO := Lib.hid (And.intro hin ho)
      have e0 : 0 + m = (cutOf l q (q + m)).length := by rw [HLEN.out]; omega
      rw [e0]
      clear hown1 hown2 hg1 hb1 hin ho r3 r3' e0
      go_wp2_with fail
      go_ret2
      exact ⟨⟨a4, c4, rfl, hcap.1, hnone4, hB4, HO.out.2⟩, rdr_mk (w := w) (by have := HO.out.1; simpa using this) hlc hc hbs HA.out HO.out.2 (Nat.le_of_lt hlt) (by omega)⟩

end Go.Proofs.YtpnnfekfoomgaaaDoor
