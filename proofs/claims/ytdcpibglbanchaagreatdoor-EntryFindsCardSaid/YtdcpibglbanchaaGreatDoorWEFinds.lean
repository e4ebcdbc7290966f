/- The walk of the law EntryFinds: it returns true and turns nothing that was there. Conditions: the order of the lengths lies where the program's own text lays it; the variable internal/bytealg.MaxLen has a value. -/
import Derived.Test.YtdcpibglbanchaaGreatDoorFnr
import Derived.Test.YtdcpibglbanchaaGreatDoorFix10
import Derived.Test.YtdcpibglbanchaaGreatDoorStr
set_option linter.unusedVariables false
set_option maxRecDepth 100000
namespace Go.Proofs.YtdcpibglbanchaaGreatDoor
open Go.RowKit Go.Maps Go.ChangeMaps

set_option maxHeartbeats 8000000 in
theorem entryfinds_walk (w : World) (a : Option Addr) (n c : Nat) (l : List Int) (hn : l.length = n) (hc : n ≤ c) (hA : a = none → c = 0) (hm : c ≤ 140737488351232) (hb : Bs w w.heap.size a l) (nm : ByteArray) (hmx : Mx w) (hord : Ord w) :
    Calls Tryz.prog 3 #[.slice a n c, .string nm] w fun e w' => e = .returned (.bool true) ∧ Below w.heap.size w w' := by
  have hfx := fixed10 w hord
  have H0 := Lib.hid (And.intro hord (And.intro hmx (And.intro hb hA)))
  clear hord hb hA hmx
  go_enter Tryz.func3, Tryz.ntmps3
  go_wp2_with fail
  refine hfx.mono ?_
  rintro e w1 ⟨rfl, hb1⟩
  have H1 := Lib.hid hb1
  clear hfx hb1
  by_cases hlong : 6000 < n
  · have hd : decide ((n : Int) > 6000) = true := by simp; omega
    go_wp2_with fail
    go_ret
    exact ⟨rfl, H1.out⟩
  have hd6 : decide ((n : Int) > 6000) = false := by simp; omega
  have hfi := find_is w1 a n c l hn hc (by omega) (H0.out.2.2.1.next H1.out) nm (H0.out.2.1.below H1.out) (H0.out.1.below H1.out)
  go_wp2_with fail
  refine hfi.mono ?_
  intro e w3 h3
  cases hu : findS l nm with
  | error er =>
    obtain ⟨hb3, hne, rfl⟩ := unp_bad h3 hu
    have hw3 := below_next H1.out (Nat.le_refl _) hb3
    have hru := refFind_is w3 a n c l hn hc (by omega) hm H0.out.2.2.2 (H0.out.2.2.1.next hw3) nm
    have H3 := Lib.hid (And.intro hw3 hu)
    clear h3 hfi hb3 hu hw3
    go_wp2_with fail
    refine hru.mono ?_
    intro e w4 h4
    obtain ⟨hb4, _, rfl⟩ := unpRbad h4 H3.out.2
    have hw4 := below_next H3.out.1 (Nat.le_refl _) hb4
    have hs1 := same_trueR (w := w4) (B := 0) (B' := 0) (a := none) (a' := none) (n := 0) (c := 0) (n' := 0) (c' := 0) (l := []) rfl rfl (by unfold maxLen; simp) (Bs.nil_ _ _ _) (Bs.nil_ _ _ _)
    have t3 : (er == er) = true := by simp
    have H4 := Lib.hid hw4
    clear hb4 hw4 hru h4
    go_wp2_with fail
    refine hs1.mono ?_
    rintro e w5 ⟨rfl, d, rfl⟩
    clear hs1
    go_wp2_with fail
    go_ret
    exact ⟨rfl, low_drewN H4.out _⟩
  | ok b =>
    obtain ⟨hb3, ax, cx, rfl, hBb, hbl, hox⟩ := unp_ok h3 hu
    have hw3 := below_next H1.out (Nat.le_refl _) hb3
    have hru := refFind_is w3 a n c l hn hc (by omega) hm H0.out.2.2.2 (H0.out.2.2.1.next hw3) nm
    have H3 := Lib.hid (And.intro hw3 (And.intro hu (And.intro hox hBb)))
    clear h3 hfi hb3 hu hw3 hox hBb
    go_wp2_with fail
    refine hru.mono ?_
    intro e w4 h4
    obtain ⟨hb4, ay, cy, rfl, _, hoy⟩ := unpRok h4 H3.out.2.1
    have hw4 := below_next H3.out.1 (Nat.le_refl _) hb4
    have hs1 := same_trueR (w := w4) (a := ax) (a' := ay) (n := b.length) (c := cx) (n' := b.length) (c' := cy) (l := b) rfl rfl (by unfold maxLen; omega) (Bs.of_own (own_below H3.out.2.2.1 hb4) H3.out.2.2.2) (Bs.of_own hoy H3.out.2.2.2)
    have H4 := Lib.hid hw4
    clear hb4 hw4 hru h4 hoy
    go_wp2_with fail
    refine hs1.mono ?_
    rintro e w5 ⟨rfl, d, rfl⟩
    clear hs1
    go_wp2_with fail
    go_ret
    exact ⟨rfl, low_drewN H4.out _⟩
end Go.Proofs.YtdcpibglbanchaaGreatDoor
