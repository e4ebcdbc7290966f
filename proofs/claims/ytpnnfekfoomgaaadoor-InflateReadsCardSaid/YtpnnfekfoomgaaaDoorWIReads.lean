/- The walk of the law InflateReads: it returns true and turns nothing that was there. Condition: the order of the lengths lies where the program's own text lays it. -/
import Derived.Test.YtpnnfekfoomgaaaDoorFix6
import Derived.Test.YtpnnfekfoomgaaaDoorSame
import Derived.Test.YtpnnfekfoomgaaaDoorRz
set_option linter.unusedVariables false
set_option maxRecDepth 100000
namespace Go.Proofs.YtpnnfekfoomgaaaDoor
open Go.RowKit

theorem same_trueR {a a' : Option Addr} {n c n' c' : Nat} {l : List Int} {w : World} {B B' : Nat} (hn : l.length = n) (hn' : l.length = n') (hm : l.length ≤ maxLen) (hb : Bs w B a l) (hb' : Bs w B' a' l) :
    Calls Tryd.prog 14 #[.slice a n c, .slice a' n' c'] w fun e w' => e = .returned (.bool true) ∧ ∃ d, w' = w.drewN d :=
  (refSame a a' n c n' c' l l hn hn' hm hm w B B' hb hb').mono fun e w' ⟨h1, h2⟩ => ⟨by rw [h1]; simp [eqB], h2⟩

set_option maxHeartbeats 8000000 in
theorem inflatereads_walk (w : World) (a : Option Addr) (n c : Nat) (l : List Int) (hn : l.length = n) (hc : n ≤ c) (hA : a = none → c = 0) (hm : c ≤ 140737488351232) (hb : Bs w w.heap.size a l) (limit : Int) (hl : -9223372036854775808 ≤ limit ∧ limit ≤ 9223372036854775807) (hord : Ord w) :
    Calls Tryd.prog 3 #[.slice a n c, .int .i64 limit] w fun e w' => e = .returned (.bool true) ∧ Below w.heap.size w w' := by
  have hfx := fixed6 w hord
  have hA' : a = none → n = 0 ∧ c = 0 := fun h => by have := hA h; omega
  have H0 := Lib.hid (And.intro hord (And.intro hb (And.intro hA' hA)))
  clear hord hb hA hA'
  go_enter Tryd.func3, Tryd.ntmps3
  go_wp2_with fail
  refine hfx.mono ?_
  rintro e w1 ⟨rfl, hb1⟩
  have H1 := Lib.hid hb1
  clear hfx hb1
  by_cases hlong : 6000 < n
  · have hd : decide ((n : Int) > 6000) = true := by simp; omega
    go_wp2_with fail
    go_ret
    exact ⟨rfl, H1.out⟩
  have hd : decide ((n : Int) > 6000) = false := by simp; omega
  have bs1 := (H0.out.2.1.below H1.out).more H1.out.size
  have hbyl := H0.out.2.1.1
  go_wp2_with (at_builtin; refine wpList_app rfl _ _ rfl w1.heap.size (.slice (some ⟨w1.heap.size, 0, none⟩) 0 0) 0 [] rfl (World.ownsRow_lit w1 #[] 0 (Nat.le_refl _) (by decide) rfl) w1.heap.size a n c l rfl hn (bs1.alloc (Nat.le_refl _) _) H0.out.2.2.1 (by omega) (by simp) ?_; intro v2 w2 o2 g2; rw [Nat.zero_add] at o2; obtain ⟨a2, c2, rfl⟩ := own_shape o2; have hb2 : Below w1.heap.size w1 w2 := ((Below.refl w1.heap.size w1).alloc (Nat.le_refl _) _).grown g2 (by simp) (fun k hk => by simp [Value.ownBlock] at hk; omega))
  have bs2 : Bs w2 w2.heap.size a2 l := Bs.of_own (own_cast (n' := l.length) (ys := l.map (Value.int .u8)) o2 hn.symm (by simp)) hbyl
  have hw2 := below_next H1.out (Nat.le_refl _) hb2
  have hc2 := all_is (w := w2) a2 n c2 l hn (by omega) bs2 limit hl (H0.out.1.below hw2)
  have H2 := Lib.hid (And.intro hw2 (And.intro bs2 hb2))
  clear o2 g2 hb2 bs1 hbyl bs2 hw2
  cases hA : inflS l limit with
  | error er =>
    have HE := Lib.hid hA
    clear hA
    refine hc2.mono ?_
    intro e w3 h3
    obtain ⟨hb3, hne, rfl⟩ := alls_bad h3 HE.out
    have hw3 := below_next H2.out.1 (Nat.le_refl _) hb3
    have hc3 := refAll (w := w3) a n c l hn hc (by omega) H0.out.2.2.2 ((H0.out.2.1.below hw3).more hw3.size) limit hl
    have H3 := Lib.hid (And.intro hw3 ((H2.out.2.1.below hb3).more hb3.size))
    clear h3 hc2 hb3 hw3
    go_wp2_with fail
    refine hc3.mono ?_
    rintro e w4 ⟨hb4, ⟨o, u, v, hs, _, _⟩ | ⟨er', hs, _, rfl⟩⟩
    · rw [HE.out] at hs; cases hs
    rw [HE.out] at hs
    injection hs with hs
    subst hs
    have hw4 := below_next H3.out.1 (Nat.le_refl _) hb4
    have hs1 := same_trueR (w := w4) (B := 0) (B' := 0) (a := none) (a' := none) (n := 0) (c := 0) (n' := 0) (c' := 0) (l := []) rfl rfl (by unfold maxLen; simp) (Bs.nil_ _ _ _) (Bs.nil_ _ _ _)
    have hs2 := fun d => same_trueR (w := w4.drewN d) (a := a2) (a' := a) (n := n) (c := c2) (n' := n) (c' := c) (l := l) hn hn (by unfold maxLen; omega) (H3.out.2.below (low_drewN hb4 d)) (H0.out.2.1.below (low_drewN hw4 d))
    have t3 : (er == er) = true := by simp
    have H4 := Lib.hid hw4
    clear hb4 hw4 hc3
    go_wp2_with fail
    refine hs1.mono ?_
    rintro e w5 ⟨rfl, d, rfl⟩
    clear hs1
    have hs2' := hs2 d
    clear hs2
    go_wp2_with fail
    refine hs2'.mono ?_
    rintro e w6 ⟨rfl, d2, rfl⟩
    clear hs2'
    go_wp2_with fail
    go_ret
    exact ⟨rfl, low_drewN H4.out _⟩
  | ok x =>
    obtain ⟨o, u⟩ := x
    have HE := Lib.hid hA
    clear hA
    refine hc2.mono ?_
    intro e w3 h3
    obtain ⟨hb3, ax, cx, rfl, hBx, hox, hx⟩ := alls_ok h3 HE.out
    have hw3 := below_next H2.out.1 (Nat.le_refl _) hb3
    have hc3 := refAll (w := w3) a n c l hn hc (by omega) H0.out.2.2.2 ((H0.out.2.1.below hw3).more hw3.size) limit hl
    have H3 := Lib.hid (And.intro hw3 (And.intro ((H2.out.2.1.below hb3).more hb3.size) (And.intro hx hBx)))
    clear h3 hc2 hb3 hw3 hx hBx
    go_wp2_with fail
    refine hc3.mono ?_
    rintro e w4 ⟨hb4, ⟨o', u', v, hs, he, hv⟩ | ⟨er', hs, _, rfl⟩⟩
    case inr => rw [HE.out] at hs; cases hs
    rw [HE.out] at hs
    injection hs with hs
    injection hs with hs1 hs2
    subst hs1 hs2
    obtain ⟨ay, cy, rfl, hoy⟩ := hv
    subst he
    have hw4 := below_next H3.out.1 (Nat.le_refl _) hb4
    have hs1 := same_trueR (w := w4) (a := ax) (a' := ay) (n := o.length) (c := cx) (n' := o.length) (c' := cy) (l := o) rfl rfl (by unfold maxLen; omega) (Bs.of_own (own_below H3.out.2.2.1 hb4) H3.out.2.2.2) (Bs.of_own hoy H3.out.2.2.2)
    have hs2 := fun d => same_trueR (w := w4.drewN d) (a := a2) (a' := a) (n := n) (c := c2) (n' := n) (c' := c) (l := l) hn hn (by unfold maxLen; omega) (H3.out.2.1.below (low_drewN hb4 d)) (H0.out.2.1.below (low_drewN hw4 d))
    have t3 : ((u : Int) == (u : Int)) = true := by simp
    have H4 := Lib.hid hw4
    clear hb4 hw4 hc3 hoy
    go_wp2_with fail
    refine hs1.mono ?_
    rintro e w5 ⟨rfl, d, rfl⟩
    clear hs1
    have hs2' := hs2 d
    clear hs2
    go_wp2_with fail
    refine hs2'.mono ?_
    rintro e w6 ⟨rfl, d2, rfl⟩
    clear hs2'
    go_wp2_with fail
    go_ret
    exact ⟨rfl, low_drewN H4.out _⟩
end Go.Proofs.YtpnnfekfoomgaaaDoor
