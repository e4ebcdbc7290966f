/- The walk of the law SqueezeBack: it returns true and turns nothing that was there. Condition: the order of the lengths lies where the program's own text lays it. -/
import Derived.Test.YthfhafnffeijpaaDoorFix7
import Derived.Test.YthfhafnffeijpaaDoorRz
set_option linter.unusedVariables false
set_option maxRecDepth 100000
namespace Go.Proofs.YthfhafnffeijpaaDoor
open Go.RowKit

theorem allq_long {w w' : World} {l : List Int} {e : Ending} (h : AllQ w l e w') (h32 : 32768 < l.length) : Below w.heap.size w w' ∧ e = .returned (.tuple #[.slice none 0 0, .int .i64 8]) := by
  obtain ⟨hb, ⟨_, h2⟩ | ⟨h1, _⟩⟩ := h
  · exact ⟨hb, h2⟩
  · omega
set_option maxHeartbeats 8000000 in
theorem squeezeback_walk (w : World) (a : Option Addr) (n c : Nat) (l : List Int) (hn : l.length = n) (hc : n ≤ c) (hA : a = none → c = 0) (hm : c ≤ 140737488351232) (hb : Bs w w.heap.size a l) (hord : Ord w) :
    Calls Tryd.prog 3 #[.slice a n c] w fun e w' => e = .returned (.bool true) ∧ Below w.heap.size w w' := by
  have hfx := fixed7 w hord
  have hA' : a = none → n = 0 ∧ c = 0 := fun h => by have := hA h; omega
  have H0 := Lib.hid (And.intro hord (And.intro hb (And.intro hA' hA)))
  clear hord hb hA hA'
  go_enter Tryd.func3, Tryd.ntmps3
  go_wp2_with fail
  refine hfx.mono ?_
  rintro e w1 ⟨rfl, hb1⟩
  have H1 := Lib.hid hb1
  clear hfx hb1
  have bs1 := (H0.out.2.1.below H1.out).more H1.out.size
  have hbyl := H0.out.2.1.1
  go_wp2_with (at_builtin; refine wpList_app rfl _ _ rfl w1.heap.size (.slice (some ⟨w1.heap.size, 0, none⟩) 0 0) 0 [] rfl (World.ownsRow_lit w1 #[] 0 (Nat.le_refl _) (by decide) rfl) w1.heap.size a n c l rfl hn (bs1.alloc (Nat.le_refl _) _) H0.out.2.2.1 (by omega) (by simp) ?_; intro v2 w2 o2 g2; rw [Nat.zero_add] at o2; obtain ⟨a2, c2, rfl⟩ := own_shape o2; have hb2 : Below w1.heap.size w1 w2 := ((Below.refl w1.heap.size w1).alloc (Nat.le_refl _) _).grown g2 (by simp) (fun k hk => by simp [Value.ownBlock] at hk; omega))
  have ho2 := own_cast (n' := l.length) (ys := l.map (Value.int .u8)) o2 hn.symm (by simp)
  have bs2 : Bs w2 w2.heap.size a2 l := Bs.of_own ho2 hbyl
  have hcap := own_cap ho2
  have hw2 := below_next H1.out (Nat.le_refl _) hb2
  have hq2 := sqAll w2 a2 n c2 l hn (by omega) (by omega) bs2
  have H2 := Lib.hid (And.intro hw2 (And.intro bs2 hb2))
  clear o2 g2 hb2 bs1 hbyl bs2 hw2 ho2
  by_cases hbig : 32768 < n
  · refine hq2.mono ?_
    intro e w3 h3
    obtain ⟨hb3, rfl⟩ := allq_long h3 (by omega)
    have hw3 := below_next H2.out.1 (Nat.le_refl _) hb3
    have hd : decide ((n : Int) > 32768) = true := by simp; omega
    have H3 := Lib.hid hw3
    clear hq2 h3 hb3 hw3
    go_wp2_with fail
    go_ret
    exact ⟨rfl, H3.out⟩
  have hd : decide ((n : Int) > 32768) = false := by simp; omega
  refine hq2.mono ?_
  intro e w3 h3
  obtain ⟨hb3, b, cb, rfl, ho3⟩ := allq_ok h3 (by omega)
  have hin := squeeze_back (l := l) H0.out.2.1.1 (by omega)
  obtain ⟨B, hB⟩ : ∃ B, pk (bitsS l) = B := ⟨_, rfl⟩
  have hm1 := (bits_most (l := l) H0.out.2.1.1 (by omega)).1
  have hbyB : Bytes B := by rw [← hB]; exact pk_bytes _
  have HB := Lib.hid hB
  rw [hB] at ho3 hin hm1 ⊢
  clear hB
  rw [hn] at hin
  obtain ⟨NB, hNB⟩ : ∃ NB, B.length = NB := ⟨_, rfl⟩
  have hcb := own_cap ho3
  have hcn := own_none ho3
  have bs3 := Bs.of_own ho3 hbyB
  rw [hNB] at ho3 hin hm1 hcb ⊢
  have hm3 : NB ≤ 40000 := by omega
  have hw3 := below_next H2.out.1 (Nat.le_refl _) hb3
  have bs2 := (H2.out.2.1.below hb3).more hb3.size
  have H3 := Lib.hid (And.intro hw3 (And.intro bs2 (And.intro bs3 (And.intro hbyB (And.intro hin (And.intro hNB (And.intro hcn ho3)))))))
  clear hq2 h3 hb3 hw3 bs2 bs3 hin hbyB hcn hm1 hNB ho3
  by_cases hlong : 5000 < n
  · have hd5 : decide ((n : Int) > 5000) = true := by simp; omega
    go_wp2_with fail
    go_ret
    exact ⟨rfl, H3.out.1⟩
  have hd5 : decide ((n : Int) > 5000) = false := by simp; omega
  have hq3 := sqAll w3 a2 n c2 l hn (by omega) (by omega) H3.out.2.1
  go_wp2_with fail
  refine hq3.mono ?_
  intro e w4 h4
  obtain ⟨hb4, t, ct, rfl, ho4⟩ := allq_ok h4 (by omega)
  rw [HB.out] at ho4 ⊢
  have bs4 := Bs.of_own ho4 H3.out.2.2.2.1
  rw [H3.out.2.2.2.2.2.1] at ho4 ⊢
  have hw4 := below_next H3.out.1 (Nat.le_refl _) hb4
  have bsS := (H3.out.2.2.1.below hb4).more hb4.size
  have bsO := (H3.out.2.1.below hb4).more hb4.size
  have hc4 := all_is (w := w4) b NB cb B H3.out.2.2.2.2.2.1 (by omega) bsS n (by omega) (H0.out.1.below hw4)
  have H4 := Lib.hid (And.intro hw4 (And.intro bsS (And.intro bs4 bsO)))
  clear hq3 h4 hb4 hw4 bsS bs4 bsO ho4
  go_wp2_with fail
  refine hc4.mono ?_
  intro e w5 h5
  obtain ⟨hb5, x, cx, rfl, _, _, hox⟩ := alls_ok h5 H3.out.2.2.2.2.1
  have hw5 := below_next H4.out.1 (Nat.le_refl _) hb5
  have bsS := (H4.out.2.1.below hb5).more hb5.size
  have bsT := (H4.out.2.2.1.below hb5).more hb5.size
  have bsO := (H4.out.2.2.2.below hb5).more hb5.size
  have bsX := Bs.of_own hox H0.out.2.1.1
  rw [hn] at hox ⊢
  have hc5 := refAll (w := w5) b NB cb B H3.out.2.2.2.2.2.1 (by omega) (by omega) (fun h => (H3.out.2.2.2.2.2.2.1 h).2) bsS n (by omega)
  have H5 := Lib.hid (And.intro hw5 (And.intro bsS (And.intro bsT (And.intro bsO bsX))))
  clear hc4 h5 hb5 hw5 bsS bsT bsO bsX hox
  go_wp2_with fail
  refine hc5.mono ?_
  rintro e w6 ⟨hb6, ⟨o', u', v, hs, he, hv⟩ | ⟨er', hs, _, rfl⟩⟩
  case inr => rw [H3.out.2.2.2.2.1] at hs; cases hs
  rw [H3.out.2.2.2.2.1] at hs
  injection hs with hs
  injection hs with hs1 hs2
  subst hs1 hs2
  obtain ⟨ay, cy, rfl, hoy⟩ := hv
  subst he
  have hw6 := below_next H5.out.1 (Nat.le_refl _) hb6
  have bsY := Bs.of_own hoy H0.out.2.1.1
  rw [hn]
  have e1 := same_trueR (w := w6) (a := x) (a' := a) (n := n) (c := cx) (n' := n) (c' := c) (l := l) hn hn (by unfold maxLen; omega) (H5.out.2.2.2.2.below hb6) (H0.out.2.1.below hw6)
  have e2 := fun d => same_trueR (w := w6.drewN d) (a := ay) (a' := a) (n := n) (c := cy) (n' := n) (c' := c) (l := l) hn hn (by unfold maxLen; omega) (bsY.below (low_drewN (Below.refl _ _) d)) (H0.out.2.1.below (low_drewN hw6 d))
  have e3 := fun d => same_trueR (w := w6.drewN d) (a := b) (a' := t) (n := NB) (c := cb) (n' := NB) (c' := ct) (l := B) H3.out.2.2.2.2.2.1 H3.out.2.2.2.2.2.1 (by unfold maxLen; have := H3.out.2.2.2.2.2.1; omega) ((H5.out.2.1.below hb6).below (low_drewN (Below.refl _ _) d)) ((H5.out.2.2.1.below hb6).below (low_drewN (Below.refl _ _) d))
  have e4 := fun d => same_trueR (w := w6.drewN d) (a := a2) (a' := a) (n := n) (c := c2) (n' := n) (c' := c) (l := l) hn hn (by unfold maxLen; omega) ((H5.out.2.2.2.1.below hb6).below (low_drewN (Below.refl _ _) d)) (H0.out.2.1.below (low_drewN hw6 d))
  have t3 : ((NB : Int) == (NB : Int)) = true := by simp
  have H6 := Lib.hid hw6
  clear hc5 hb6 hw6 bsY hoy
  go_wp2_with fail
  refine e1.mono ?_
  rintro e w7 ⟨rfl, d, rfl⟩
  have e2' := e2 d
  clear e1 e2
  go_wp2_with fail
  refine e2'.mono ?_
  rintro e w8 ⟨rfl, d2, rfl⟩
  have e3' := e3 (d + d2)
  clear e2' e3
  go_wp2_with fail
  refine e3'.mono ?_
  rintro e w9 ⟨rfl, d3, rfl⟩
  have e4' := e4 (d + d2 + d3)
  clear e3' e4
  go_wp2_with fail
  refine e4'.mono ?_
  rintro e w10 ⟨rfl, d4, rfl⟩
  clear e4'
  go_wp2_with fail
  go_ret
  exact ⟨rfl, low_drewN H6.out _⟩
end Go.Proofs.YthfhafnffeijpaaDoor
